/- The contracts of record.All and redlineref04.All: all records of bytes, or the first error. Conditions: fewer than 2^40 bytes; the errors' variables hold what the program's text lays. -/
import Derived.Test.YtlndejanojgjlaaDoorProg
import Derived.Test.YtlndejanojgjlaaDoorMem
import Derived.Test.YtlndejanojgjlaaDoorRow
import Derived.Test.YtlndejanojgjlaaDoorRecArg
import Derived.Test.YtlndejanojgjlaaDoorRparse2
import Derived.Test.YtlndejanojgjlaaDoorRef04b
import Derived.Maps.AppendAt
namespace Go.Proofs.YtlndejanojgjlaaDoor
open Go.RowKit

def RecD.i (r : RecD) : RecI := ⟨r.n, r.k, r.bits, r.text, r.raw⟩
/-- The cells of records, one behind the other. -/
def flatI (rs : List RecI) : List Value := rs.flatMap RecI.cells
theorem flatI_length (rs : List RecI) : (flatI rs).length = rs.length * 5 := by
  induction rs with
  | nil => rfl
  | cons r rs ih =>
    have e : flatI (r :: rs) = r.cells ++ flatI rs := rfl
    rw [e, List.length_append, ih, List.length_cons, show r.cells.length = 5 from rfl]
    omega
theorem flatI_append (rs ss : List RecI) : flatI (rs ++ ss) = flatI rs ++ flatI ss := by simp [flatI]
theorem flatI_get : ∀ (rs : List RecI) (i : Nat) (r : RecI), rs[i]? = some r → ∀ (j : Nat) (v : Value), r.cells[j]? = some v → (flatI rs)[i * 5 + j]? = some v
  | [], i, r, h, _, _, _ => by simp at h
  | x :: rs, 0, r, h, j, v, hv => by
    have hx : x = r := by simpa using h
    subst hx
    have hj : j < 5 := (List.getElem?_eq_some_iff.1 hv).1
    have e : flatI (x :: rs) = x.cells ++ flatI rs := rfl
    rw [e, Nat.zero_mul, Nat.zero_add, List.getElem?_append_left (by rw [show x.cells.length = 5 from rfl]; exact hj), hv]
  | x :: rs, i + 1, r, h, j, v, hv => by
    have h' : rs[i]? = some r := by simpa using h
    have e : flatI (x :: rs) = x.cells ++ flatI rs := rfl
    rw [e, List.getElem?_append_right (by rw [show x.cells.length = 5 from rfl]; omega), show (i + 1) * 5 + j - x.cells.length = i * 5 + j by rw [show x.cells.length = 5 from rfl]; omega]
    exact flatI_get rs i r h' j v hv

theorem row_below {w w' : World} {base : Nat} {e : TypeId} {size : Nat} {v : Value} {n : Nat} {xs : List Value} (h : w.ownsRow base e size v n xs) (hb : Below w.heap.size w w') : w'.ownsRow base e size v n xs := by
  obtain ⟨h1, h2⟩ := h
  refine ⟨h1, ?_⟩
  rcases h2 with h2 | ⟨g, cap, cur, hv, hg, hh, hr⟩
  · exact .inl h2
  · exact .inr ⟨g, cap, cur, hv, hg, (hb.block g (Array.getElem?_eq_some_iff.1 hh).1).trans hh, hr⟩
/-- What a row of records of the call's own reads as. -/
theorem own_rs {w : World} {base : Nat} {e : TypeId} {v : Value} {rs : List RecI} (h : w.ownsRow base e 5 v rs.length (flatI rs)) : ∃ p c, v = .slice p rs.length c ∧ Rs w w.heap.size p rs ∧ rs.length ≤ c ∧ c ≤ maxLen := by
  obtain ⟨_, h2⟩ := h
  rcases h2 with ⟨hv, h0⟩ | ⟨g, cap, cur, hv, _, hh, hnc, hm, _, ht⟩
  · have : rs = [] := List.eq_nil_of_length_eq_zero h0
    subst this
    exact ⟨none, 0, hv, Rs.nil _ _ _, by simp, by simp⟩
  · refine ⟨_, cap, hv, fun hl => ⟨g, 0, rfl, (Array.getElem?_eq_some_iff.1 hh).1, fun i r hr j x hx => ?_⟩, hnc, hm⟩
    have hg := flatI_get rs i r hr j x hx
    rw [← ht, List.getElem?_take] at hg
    rw [Nat.zero_add, cell_of_row w g (i * 5 + j) cur e (0, 0) hh]
    split at hg
    · simpa using hg
    · cases hg

theorem rparse_size {l : List UInt8} (h : (rparse l).2.2 = 0) : 0 < (rparse l).2.1 ∧ (rparse l).2.1 ≤ l.length := by
  have hok := fun h => tparse_ok (l := l) h
  unfold rparse at h ⊢
  generalize tparse l = T at *
  obtain ⟨n, k, s, b⟩ := T
  simp only at hok h ⊢
  by_cases hb : b = 0
  · subst hb
    obtain ⟨h1, h2, _⟩ := hok rfl
    have hz := rbody_size k (l.drop s)
    rw [if_neg (by simp)] at h ⊢
    by_cases hr : (rbody k (l.drop s)).2.2.2 = 0
    · rw [if_neg (by omega)]
      have := hz hr
      rw [List.length_drop] at this
      simp only
      omega
    · rw [if_pos hr] at h
      exact absurd h hr
  · rw [if_pos hb] at h
    exact absurd h hb
theorem rparse_err (l : List UInt8) : (rparse l).2.2 ≤ 19 := by
  have h1 : (tparse l).2.2.2 ≤ 19 := by
    have h1 := vparse_err l
    have h2 := tcheck_le (((vparse l).1 : Int) / 8) (((vparse l).1 : Int) % 8)
    unfold tparse tagOf
    split
    · exact Nat.le_trans h1 (by decide)
    · split
      · simp
      · split
        · exact Nat.le_trans h2 (by decide)
        · simp
  have h2 : ∀ k m, (rbody k m).2.2.2 ≤ 19 := fun k m => by
    have h1 := vparse_err m
    unfold rbody
    split
    · split <;> simp
    · split
      · split <;> simp
      · split
        · exact Nat.le_trans h1 (by decide)
        · split
          · simp
          · split <;> simp
  unfold rparse
  split
  · exact h1
  · split
    · exact h2 _ _
    · simp

/-- All records of bytes; the error's number. -/
def rall (l : List UInt8) : List RecD × Nat :=
  if _h0 : l = [] then ([], 0)
  else if _h : (rparse l).2.2 = 0 then
    if (rall (l.drop (rparse l).2.1)).2 = 0 then ((rparse l).1 :: (rall (l.drop (rparse l).2.1)).1, 0) else ([], (rall (l.drop (rparse l).2.1)).2)
  else ([], (rparse l).2.2)
termination_by l.length
decreasing_by all_goals (have := rparse_size _h; simp; omega)

def joinD (out : List RecD) (r : List RecD × Nat) : List RecD × Nat := if r.2 = 0 then (out ++ r.1, 0) else ([], r.2)
theorem joinD_ok (out : List RecD) : joinD out ([], 0) = (out, 0) := by simp [joinD]
theorem joinD_bad (out : List RecD) (b : Nat) (h : b ≠ 0) : joinD out ([], b) = ([], b) := by simp [joinD, h]
theorem joinD_join (a b : List RecD) (r : List RecD × Nat) : joinD a (joinD b r) = joinD (a ++ b) r := by
  unfold joinD
  by_cases h : r.2 = 0
  · simp [h]
  · simp [h]
theorem rall_nil : rall [] = ([], 0) := by rw [rall]; simp
theorem rall_step {l : List UInt8} (h0 : 0 < l.length) (h : (rparse l).2.2 = 0) : rall l = joinD [(rparse l).1] (rall (l.drop (rparse l).2.1)) := by
  rw [rall, dif_neg (by rintro rfl; simp at h0), dif_pos h]
  rfl
theorem rall_bad {l : List UInt8} (h0 : 0 < l.length) (h : (rparse l).2.2 ≠ 0) : rall l = ([], (rparse l).2.2) := by
  rw [rall, dif_neg (by rintro rfl; simp at h0), dif_neg h]
theorem rall_norm (l : List UInt8) : joinD [] (rall l) = rall l := by
  by_cases h0 : 0 < l.length
  · by_cases h : (rparse l).2.2 = 0
    · rw [rall_step h0 h, joinD_join]
      rfl
    · rw [rall_bad h0 h]
      simp [joinD, h]
  · obtain rfl : l = [] := List.eq_nil_of_length_eq_zero (by omega)
    rw [rall_nil]
    rfl
theorem rall_err : ∀ (n : Nat) (l : List UInt8), l.length ≤ n → (rall l).2 ≤ 19 ∧ (rall l).1.length ≤ l.length
  | 0, l, h => by
    obtain rfl : l = [] := List.eq_nil_of_length_eq_zero (by omega)
    rw [rall_nil]
    simp
  | n + 1, l, h => by
    by_cases h0 : 0 < l.length
    · by_cases hp : (rparse l).2.2 = 0
      · have hs := rparse_size hp
        have ih := rall_err n (l.drop (rparse l).2.1) (by rw [List.length_drop]; omega)
        rw [List.length_drop] at ih
        rw [rall_step h0 hp]
        unfold joinD
        split
        · simp only [List.length_append, List.length_cons, List.length_nil]; omega
        · simp only [List.length_nil]; omega
      · rw [rall_bad h0 hp]
        have := rparse_err l
        exact ⟨this, by simp⟩
    · obtain rfl : l = [] := List.eq_nil_of_length_eq_zero (by omega)
      rw [rall_nil]
      simp

theorem info29 : (Tryd.prog.info? 29).map (fun i => (i.zero, i.size, i.bytes)) = some (some (.agg #[.int .i64 0, .int .i64 0, .int .u64 0, .string .empty, .string .empty]), 5, 56) := by kernel_rfl
theorem info35 : (Tryd.prog.info? 35).map (fun i => (i.zero, i.size, i.bytes)) = some (some (.agg #[.int .i64 0, .int .i64 0, .int .u64 0, .string .empty, .string .empty]), 5, 56) := by kernel_rfl
/-- A result of two: a row of the call's own, of the records, and the error. -/
def RecsL (w : World) (A : Nat → Addr) (r : List RecD × Nat) (e : Ending) (w' : World) : Prop :=
  ∃ v, e = .returned (.tuple #[v, errOf A r.2]) ∧ w'.ownsRow w.heap.size 29 5 v (r.1.map RecD.i).length (flatI (r.1.map RecD.i)) ∧ Below w.heap.size w w'
theorem new5 (w : World) (t : TypeId) (r : RecI) (g : Nat) (hg : g = w.heap.size) : ∀ (j : Nat) (u : Value), r.cells[j]? = some u → (w.alloc (.cells #[.int .i64 r.n, .int .i64 r.k, .int .u64 (r.bits : Int), .string (str r.text), .string (str r.raw)] t)).cell? ((⟨g, 0, none⟩ : Addr).add j) = some u := fun j u h => by
  subst hg
  have hb : Blk (w.alloc (.cells r.cells.toArray t)) w.heap.size t r.cells := Blk.new w t _
  rw [Addr.add_lit, Nat.zero_add]
  have := hb.cell j
  rw [h] at this
  exact this
theorem one5 (r : RecI) : ∀ u ∈ r.cells, u.oneCell' = true := fun u h => by
  simp only [RecI.cells, recCells, List.mem_cons, List.not_mem_nil, or_false] at h
  rcases h with rfl | rfl | rfl | rfl | rfl <;> rfl

set_option maxRecDepth 100000 in
set_option maxHeartbeats 2000000 in
theorem recAll_any (w : World) (A : Nat → Addr) (hE : Errs w A) (p : Option Addr) (l : List UInt8) (c B : Nat) (hl : l.length ≤ 1099511627776) (hc : l.length ≤ c) (hcm : c ≤ maxLen) (hB : B ≤ w.heap.size) (hs : Sl w B p l) :
    Calls Tryd.prog 12 #[.slice p l.length c] w (RecsL w A (rall l)) := by
  obtain ⟨i0, hi, hz0, hz1, hz2⟩ := info_parts info29
  obtain ⟨R, hR⟩ : ∃ R, R = rall l := ⟨_, rfl⟩
  rw [← hR]
  have HR := Lib.hid hR
  clear hR
  go_enter Tryd.func12, Tryd.ntmps12
  go_wp2_with fail
  go_loopw [4, 0] (fun v x wr => ∃ (q : Option Addr) (m : List UInt8) (d : Nat) (out : List RecD), x = .slice q m.length d ∧ m.length ≤ d ∧ d ≤ maxLen ∧ m.length + out.length ≤ l.length ∧ Hid (R = joinD out (rall m)) ∧ Sl wr B q m ∧ wr.ownsRow w.heap.size 29 5 v (out.map RecD.i).length (flatI (out.map RecD.i)) ∧ Below w.heap.size w wr) (fun _ x _ => match x with | .slice _ n _ => n | _ => 0)
  case atStart => exact ⟨p, l, c, [], rfl, hc, hcm, by simp, Lib.hid (HR.out.trans (rall_norm l).symm), hs, World.ownsRow_nil _ _ _ _, Below.refl _ _⟩
  case round =>
    obtain ⟨q, m, d, out, rfl, hmd, hdm, hml, HJ, hsm, hownr, hbr⟩ := hrel
    have hsz := hbr.size
    by_cases h0 : 0 < m.length
    · have HP := Lib.hid (recParse_any wr A (hE.below hbr) q m d B (by omega) hmd (Nat.le_trans hB hsz) hsm)
      by_cases hok : (rparse m).2.2 = 0
      · have hsize := rparse_size hok
        have HS := Lib.hid (rall_step h0 hok)
        have HB := Lib.hid (hsm.behind (rparse m).2.1 d hmd)
        rw [hok, show errOf A 0 = Value.nilIface from rfl] at HP
        generalize rparse m = r at *
        obtain ⟨r, s, b⟩ := r
        simp only at HS HP HB hsize hok
        unfold Recs RecD.val recV at HP
        have hs1 : s ≤ d := by omega
        go_wp2_with fail
        refine HP.out.mono ?_
        rintro e w1 ⟨rfl, hb1⟩
        have hown1 := row_below hownr hb1
        have hb1w := hbr.trans (hb1.mono hsz)
        have hz1w := hb1w.size
        go_wp2_with (at_builtin; go_must (refine wpList_append_own_at _ rfl (.tmp 20) (.tmp 22) 40 rfl w.heap.size 29 i0 (.agg #[.int .i64 0, .int .i64 0, .int .u64 0, .string .empty, .string .empty]) 5 56 Tryd.underlying40 hi hz0 hz1 hz2 rfl (by decide) _ _ _ rfl ((World.ownsRow.alloc hown1 _).alloc _) ⟨w1.heap.size + 1, 0, none⟩ 1 1 r.i.cells rfl rfl (new5 _ _ r.i _ (by simp)) (one5 _) (by rw [List.length_map]; unfold maxLen; omega) (by rw [List.length_map]; omega) (by simp; omega) ?_); intro v3 w3 hown3 hg3 hn3 ha3)
        have hb3 := ((hb1w.alloc hz1w _).alloc (by simp; omega) _).grown hg3 (by simp; omega) (fun g h => (hown1.lt g h).1)
        have hB3 : Below B wr w3 := (((hb1.mono (Nat.le_trans hB hsz)).alloc (Nat.le_trans hB hz1w) _).alloc (by simp; omega) _).grown hg3 (by simp; omega) (fun g h => Nat.le_trans hB (hown1.lt g h).1)
        have hown4 : w3.ownsRow w.heap.size 29 5 v3 ((out ++ [r]).map RecD.i).length (flatI ((out ++ [r]).map RecD.i)) := by
          rw [List.map_append, List.length_append, flatI_append, show flatI (List.map RecD.i [r]) = r.i.cells from by simp [flatI]]; exact hown3
        have hs3 := HB.out.below hB3
        have HJ' := Lib.hid (show R = joinD (out ++ [r]) (rall (m.drop s)) by rw [HJ.out, HS.out, joinD_join])
        clear hown3 hg3 hn3 ha3
        go_roundw
        case rel => exact ⟨_, m.drop s, d - s, out ++ [r], by rw [List.length_drop], by rw [List.length_drop]; omega, by omega, by rw [List.length_drop, List.length_append]; simp; omega, HJ', hs3, hown4, hb3⟩
        case measure => show m.length - s < m.length; omega
      · obtain ⟨b, hb⟩ : ∃ b, (rparse m).2.2 = b + 1 := ⟨_, (Nat.sub_add_cancel (Nat.pos_of_ne_zero hok)).symm⟩
        have hR : R = ([], b + 1) := by rw [HJ.out, rall_bad h0 hok, hb, joinD_bad _ _ (by omega)]
        rw [hb, show errOf A (b + 1) = errV A b from rfl] at HP
        have hne := neq_errV A b
        have H4 := Lib.hid hR
        clear hR HR HJ hb
        generalize rparse m = r at *
        obtain ⟨r, s, b'⟩ := r
        unfold Recs RecD.val recV at HP
        go_wp2_with fail
        refine HP.out.mono ?_
        rintro e w1 ⟨rfl, hb1⟩
        go_wp2_with fail
        go_ret2
        rw [H4.out]
        exact ⟨_, rfl, World.ownsRow_nil _ _ _ _, (hbr.trans (hb1.mono hsz)).alloc (Nat.le_trans hsz hb1.size) _⟩
    · obtain rfl : m = [] := List.eq_nil_of_length_eq_zero (by omega)
      have hR : R = (out, 0) := HJ.out.trans (by rw [rall_nil, joinD_ok])
      have H4 := Lib.hid hR
      clear hR HR HJ
      go_wp2_with fail
      go_ret2
      rw [H4.out]
      exact ⟨_, rfl, hownr, hbr⟩

/-- The same of the reference: the error's number. -/
def RecsLN (w : World) (r : List RecD × Nat) (e : Ending) (w' : World) : Prop :=
  ∃ v, e = .returned (.tuple #[v, .int .i64 (r.2 : Int)]) ∧ w'.ownsRow w.heap.size 35 5 v (r.1.map RecD.i).length (flatI (r.1.map RecD.i)) ∧ Below w.heap.size w w'

set_option maxRecDepth 100000 in
set_option maxHeartbeats 2000000 in
theorem refRecAll_any (w : World) (p : Option Addr) (l : List UInt8) (c B : Nat) (hl : l.length ≤ 1099511627776) (hc : l.length ≤ c) (hB : B ≤ w.heap.size) (hs : Sl w B p l) :
    Calls Tryd.prog 13 #[.slice p l.length c] w (RecsLN w (rall l)) := by
  obtain ⟨i0, hi, hz0, hz1, hz2⟩ := info_parts info35
  obtain ⟨R, hR⟩ : ∃ R, R = rall l := ⟨_, rfl⟩
  rw [← hR]
  have HR := Lib.hid hR
  clear hR
  go_enter Tryd.func13, Tryd.ntmps13
  go_wp2_with fail
  go_loopw [4, 5] (fun v i wr => ∃ (k : Nat) (out : List RecD), i = .int .i64 (k : Int) ∧ k ≤ l.length ∧ out.length ≤ k ∧ Hid (R = joinD out (rall (l.drop k))) ∧ wr.ownsRow w.heap.size 35 5 v (out.map RecD.i).length (flatI (out.map RecD.i)) ∧ Below w.heap.size w wr) (fun _ i _ => l.length - (intOf i).toNat)
  case atStart => exact ⟨0, [], rfl, by omega, by simp, Lib.hid (HR.out.trans (rall_norm l).symm), World.ownsRow_made w #[] 0 (Nat.le_refl _) (by simp) rfl, (Below.refl _ _).alloc (Nat.le_refl _) _⟩
  case round =>
    obtain ⟨k, out, rfl, hk, hok1, HJ, hownr, hbr⟩ := hrel
    have hsz := hbr.size
    have hsr := hs.below (hbr.mono hB)
    by_cases hlt : k < l.length
    · have hml : (l.drop k).length = l.length - k := List.length_drop
      have HP := refRec_any wr _ (l.drop k) (c - k) B (by omega) (by omega) (Nat.le_trans hB hsz) (hsr.after k)
      rw [hml] at HP
      have HP := Lib.hid HP
      have hkc : k < c := by omega
      by_cases hok : (rparse (l.drop k)).2.2 = 0
      · have hsize := rparse_size hok
        have HS := Lib.hid (rall_step (by omega) hok)
        have HD := Lib.hid (fun s => show l.drop (k + s) = (l.drop k).drop s by rw [List.drop_drop])
        rw [hok] at HP
        rw [hml] at hsize
        clear hml
        generalize rparse (l.drop k) = r at *
        obtain ⟨r, s, b⟩ := r
        simp only at HS HP hsize hok
        unfold RecsN RecD.val recV at HP
        go_wp2_with fail
        refine HP.out.mono ?_
        rintro e w1 ⟨rfl, hb1⟩
        have hown1 := row_below hownr hb1
        have hb1w := hbr.trans (hb1.mono hsz)
        have hz1w := hb1w.size
        go_wp2_with (at_builtin; go_must (refine wpList_append_own_at _ rfl (.tmp 25) (.tmp 27) 43 rfl w.heap.size 35 i0 (.agg #[.int .i64 0, .int .i64 0, .int .u64 0, .string .empty, .string .empty]) 5 56 Tryd.underlying43 hi hz0 hz1 hz2 rfl (by decide) _ _ _ rfl ((World.ownsRow.alloc hown1 _).alloc _) ⟨w1.heap.size + 1, 0, none⟩ 1 1 r.i.cells rfl rfl (new5 _ _ r.i _ (by simp)) (one5 _) (by rw [List.length_map]; unfold maxLen; omega) (by rw [List.length_map]; omega) (by simp; omega) ?_); intro v3 w3 hown3 hg3 hn3 ha3)
        have hb3 := ((hb1w.alloc hz1w _).alloc (by simp; omega) _).grown hg3 (by simp; omega) (fun g h => (hown1.lt g h).1)
        have hown4 : w3.ownsRow w.heap.size 35 5 v3 ((out ++ [r]).map RecD.i).length (flatI ((out ++ [r]).map RecD.i)) := by
          rw [List.map_append, List.length_append, flatI_append, show flatI (List.map RecD.i [r]) = r.i.cells from by simp [flatI]]; exact hown3
        have HJ' := Lib.hid (show R = joinD (out ++ [r]) (rall (l.drop (k + s))) by rw [HJ.out, HS.out, joinD_join, HD.out])
        clear hown3 hg3 hn3 ha3
        go_roundw
        case rel => exact ⟨k + s, out ++ [r], by go_num, by omega, by simp; omega, HJ', hown4, hb3⟩
        case measure => simp [intOf]; omega
      · have hR := HJ.out.trans (by rw [rall_bad (by omega) hok, joinD_bad _ _ hok])
        have hb0 : ((rparse (l.drop k)).2.2 : Int) ≠ 0 := by omega
        have H4 := Lib.hid hR
        clear hR HR HJ hok hml
        generalize rparse (l.drop k) = r at *
        obtain ⟨r, s, b⟩ := r
        simp only at HP hb0 H4
        unfold RecsN RecD.val recV at HP
        go_wp2_with fail
        refine HP.out.mono ?_
        rintro e w1 ⟨rfl, hb1⟩
        go_wp2_with fail
        go_ret2
        rw [H4.out]
        exact ⟨_, rfl, World.ownsRow_nil _ _ _ _, (hbr.trans (hb1.mono hsz)).alloc (Nat.le_trans hsz hb1.size) _⟩
    · obtain rfl : k = l.length := by omega
      have hR : R = (out, 0) := HJ.out.trans (by rw [List.drop_length, rall_nil, joinD_ok])
      have H4 := Lib.hid hR
      clear hR HR HJ
      go_wp2_with fail
      go_ret2
      rw [H4.out]
      exact ⟨_, rfl, hownr, hbr⟩
end Go.Proofs.YtlndejanojgjlaaDoor
