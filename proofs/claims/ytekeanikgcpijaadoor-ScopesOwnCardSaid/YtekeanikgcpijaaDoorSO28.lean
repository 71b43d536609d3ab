/- Part 28 of what the last text of this claim is proved by: walks over the program, and the math behind them. Conditions: as each theorem says. -/
import Derived.Test.YtekeanikgcpijaaDoorSO27
import Derived.Test.YtekeanikgcpijaaDoorProg
import Derived.Maps.AppendAt
import Derived.RegionTactic
import Derived.ChangeAlike
namespace Go.Proofs.YtekeanikgcpijaaDoor
open Go.RowKit
theorem lplace_next (p : Nat × Nat) {l : List UInt8} {j : Nat} {b : UInt8} (h : l[j]? = some b) : lplace p (l.take (j + 1)) = if b = 10 then ((lplace p (l.take j)).1 + 1, 1) else ((lplace p (l.take j)).1, (lplace p (l.take j)).2 + 1) := by
  rw [show l.take (j + 1) = l.take j ++ [b] from by rw [List.take_add_one, h]; rfl, lplace_snoc]
theorem lplace_round (p : Nat × Nat) {l : List UInt8} {j : Nat} {b : UInt8} (h : l[j]? = some b) (a c : Int) (ha : a = ((lplace p (l.take j)).1 : Int)) (hc : c = ((lplace p (l.take j)).2 : Int)) :
    ((b.toNat : Int) = 10 → ((lplace p (l.take (j + 1))).1 : Int) = a + 1 ∧ ((lplace p (l.take (j + 1))).2 : Int) = 1) ∧ (¬ (b.toNat : Int) = 10 → ((lplace p (l.take (j + 1))).1 : Int) = a ∧ ((lplace p (l.take (j + 1))).2 : Int) = c + 1) := by
  rw [lplace_next p h]
  constructor
  · intro hb
    have : b = 10 := UInt8.toNat_inj.1 (by simp; omega)
    rw [if_pos this]
    exact ⟨by simp only; omega, by simp⟩
  · intro hb
    have : ¬ b = 10 := by rintro rfl; exact hb rfl
    rw [if_neg this]
    exact ⟨by simp only; omega, by simp only; omega⟩
set_option maxRecDepth 100000 in
theorem behind_any (w : World) (p : Nat × Nat) (l : List UInt8) (hl : l.length < 1000000000) (h1 : p.1 < 1000000000) (h2 : p.2 < 1000000000) :
    Calls Tryd.prog 20 #[.int .i64 (p.1 : Int), .int .i64 (p.2 : Int), .string (str l)] w (Ans (.tuple #[.int .i64 ((lplace p l).1 : Int), .int .i64 ((lplace p l).2 : Int)]) w) := by
  have hz : (str l).size = l.length := strSize l
  have hle := fun j => lplace_le (l.take j) p
  have HLE := Lib.hid hle
  clear hle
  go_enter Tryd.func20, Tryd.ntmps20
  go_wp2_with fail
  go_loopg [11, 0, 1] l.length (fun g i li co wx => ∃ (j : Nat) (a c : Int), j + g = l.length ∧ i = .int .i64 (j : Int) ∧ li = .int .i64 a ∧ co = .int .i64 c ∧ Hid (a = ((lplace p (l.take j)).1 : Int)) ∧ Hid (c = ((lplace p (l.take j)).2 : Int)) ∧ wx = w)
  case atStart => exact ⟨0, p.1, p.2, by omega, rfl, rfl, rfl, Lib.hid rfl, Lib.hid rfl, rfl⟩
  case round =>
    obtain ⟨j, a, c, hj, rfl, rfl, rfl, HA, HC, rfl⟩ := hrel
    have hb1 : 0 ≤ a ∧ a < 2000000002 ∧ 0 ≤ c ∧ c < 2000000002 := by
      have h := HLE.out j
      have h3 := HA.out
      have h4 := HC.out
      rw [List.length_take] at h
      omega
    obtain ⟨ha0, ha1, hc0, hc1⟩ := hb1
    cases gk with
    | zero =>
      obtain rfl : j = l.length := by omega
      have hlt : ¬ ((l.length : Int) < (l.length : Int)) := by omega
      go_wp2_with fail
      go_ret2
      exact ⟨by rw [HA.out, HC.out, List.take_length]; rfl, rfl⟩
    | succ g =>
      have hlt : (j : Int) < (l.length : Int) := by omega
      have hjl : j < l.length := by omega
      have hix := str_index l j hjl
      obtain ⟨b, hb⟩ : ∃ b, l[j] = b := ⟨_, rfl⟩
      rw [hb] at hix
      have HR := Lib.hid (lplace_round p (l := l) (j := j) (b := b) (by rw [List.getElem?_eq_getElem hjl, hb]) a c HA.out HC.out)
      clear hb
      generalize (b.toNat : Int) = B at *
      by_cases h10 : B = 10
      · obtain ⟨R1, R2⟩ := HR.out.1 h10
        have HR1 := Lib.hid R1
        have HR2 := Lib.hid R2
        clear R1 R2
        subst h10
        go_wp2_with fail
        go_roundg g
        case measure => omega
        case rel => exact ⟨j + 1, a + 1, 1, by omega, by go_num, by go_num, rfl, Lib.hid HR1.out.symm, Lib.hid HR2.out.symm, rfl⟩
      · obtain ⟨R1, R2⟩ := HR.out.2 h10
        have HR1 := Lib.hid R1
        have HR2 := Lib.hid R2
        clear R1 R2
        go_wp2_with fail
        go_roundg g
        case measure => omega
        case rel => exact ⟨j + 1, a, c + 1, by omega, by go_num, rfl, by go_num, Lib.hid HR1.out.symm, Lib.hid HR2.out.symm, rfl⟩
end Go.Proofs.YtekeanikgcpijaaDoor
namespace Go.Proofs.YtekeanikgcpijaaDoor
open Go.RowKit
def Rk (k : Nat) (w : World) (B : Nat) (p : Option Addr) (rs : List (List Value)) : Prop :=
  0 < rs.length → ∃ b o, p = some ⟨b, o, none⟩ ∧ b < B ∧ ∀ (i : Nat) (r : List Value), rs[i]? = some r → ∀ (j : Nat) (v : Value), r[j]? = some v → w.cell? ⟨b, o + i * k + j, none⟩ = some v
theorem Rk.nil (k : Nat) (w : World) (B : Nat) (p : Option Addr) : Rk k w B p [] := fun h => absurd h (Nat.lt_irrefl 0)
theorem Rk.more {k B B' : Nat} {w : World} {p : Option Addr} {rs : List (List Value)} (h : Rk k w B p rs) (hB : B ≤ B') : Rk k w B' p rs := fun hl => by
  obtain ⟨b, o, e, hb, hc⟩ := h hl
  exact ⟨b, o, e, by omega, hc⟩
theorem Rk.below {k B : Nat} {w w' : World} {p : Option Addr} {rs : List (List Value)} (h : Rk k w B p rs) (hb : Below B w w') : Rk k w' B p rs := fun hl => by
  obtain ⟨b, o, e, hlt, hc⟩ := h hl
  exact ⟨b, o, e, hlt, fun i r hr j v hv => (hb.cell (p := ⟨b, o + i * k + j, none⟩) hlt).trans (hc i r hr j v hv)⟩
theorem rowk_below {w w' : World} {base : Nat} {e : TypeId} {size : Nat} {v : Value} {n : Nat} {xs : List Value} (h : w.ownsRow base e size v n xs) (hb : Below w.heap.size w w') : w'.ownsRow base e size v n xs := by
  obtain ⟨h1, h2⟩ := h
  refine ⟨h1, ?_⟩
  rcases h2 with h2 | ⟨g, cap, cur, hv, hg, hh, hr⟩
  · exact .inl h2
  · exact .inr ⟨g, cap, cur, hv, hg, (hb.block g (Array.getElem?_eq_some_iff.1 hh).1).trans hh, hr⟩
end Go.Proofs.YtekeanikgcpijaaDoor
namespace Go.Proofs.YtekeanikgcpijaaDoor
open Go.RowKit
def tokRow (l : List UInt8) (x : Tok × Nat) : List Value := tokCells x.1 (placeAt l x.2).1 (placeAt l x.2).2
abbrev tF : TypeId := 63
def SplitR (w : World) (A : Nat → Addr) (l : List UInt8) (ts : List (Tok × Nat)) (b ea : Nat) (e : Ending) (w' : World) : Prop :=
  Below w.heap.size w w' ∧ ((b = 0 ∧ ∃ v, e = .returned (.tuple #[v, .nilIface]) ∧ w'.ownsRow w.heap.size 67 5 v (ts.map (tokRow l)).length (ts.map (tokRow l)).flatten) ∨
    (b ≠ 0 ∧ ∃ g, e = .returned (.tuple #[.slice none 0 0, .iface tF (.pointer (some ⟨g, 0, none⟩))]) ∧ w.heap.size ≤ g ∧ Blk w' g 65 [.int .i64 ((placeAt l ea).1 : Int), .int .i64 ((placeAt l ea).2 : Int), errOf A b]))
theorem ltoken_k {k : Nat} {p : List UInt8} (h : (ltoken k p).2 = 0) : (ltoken k p).1.k = k := by
  unfold ltoken at h ⊢
  split
  · rename_i h1; exact h1.symm
  rename_i h1
  rw [if_neg h1] at h
  split
  · rename_i h2
    rw [if_pos h2] at h
    split
    · rename_i h3; rw [if_pos h3] at h; cases h
    · exact h2.symm
  rename_i h2
  rw [if_neg h2] at h
  split
  · rename_i h3
    rw [if_pos h3] at h
    split
    · exact h3.symm
    · rename_i h4; rw [if_neg h4] at h; exact absurd h h4
  rename_i h3
  rw [if_neg h3] at h
  split
  · rename_i h4
    rw [if_pos h4] at h
    split
    · rename_i h5; rw [if_pos h5] at h; cases h
    · exact h4.symm
  · rfl
theorem lfirst_k {l : List UInt8} (h0 : 0 < l.length) (h : (lfirst l).2.2 = 0) : (lfirst l).1.k = (lcut l).1 := by
  have := lfirst_size h0 h
  rw [this.2.2.2.2.2, ltoken_k this.2.2.2.2.1]
theorem Lex.step {l : List UInt8} {i : Nat} {ts : List (Tok × Nat)} {b ea : Nat} (h : Lex l i ts b ea) :
    (i = l.length ∧ ts = [] ∧ b = 0) ∨ (i < l.length ∧ (lfirst (l.drop i)).2.2 = b ∧ b ≠ 0 ∧ ts = [] ∧ ea = i) ∨
    (i < l.length ∧ (lfirst (l.drop i)).2.2 = 0 ∧ (lfirst (l.drop i)).1.k = 0 ∧ Lex l (i + (lfirst (l.drop i)).2.1) ts b ea) ∨
    (i < l.length ∧ (lfirst (l.drop i)).2.2 = 0 ∧ (lfirst (l.drop i)).1.k ≠ 0 ∧ ∃ ts', ts = ((lfirst (l.drop i)).1, i) :: ts' ∧ Lex l (i + (lfirst (l.drop i)).2.1) ts' b ea) := by
  cases h with
  | done h => exact .inl ⟨h, rfl, rfl⟩
  | bad h1 h2 => exact .inr (.inl ⟨h1, rfl, h2, rfl, rfl⟩)
  | gap h1 h2 h3 h4 => exact .inr (.inr (.inl ⟨h1, h2, by rw [lfirst_k (by rw [List.length_drop]; omega) h2]; exact h3, h4⟩))
  | tok h1 h2 h3 h4 => exact .inr (.inr (.inr ⟨h1, h2, by rw [lfirst_k (by rw [List.length_drop]; omega) h2]; exact h3, _, rfl, h4⟩))
theorem newCells (w : World) (t : TypeId) (cs : List Value) (g : Nat) (hg : g = w.heap.size) : ∀ (j : Nat) (u : Value), cs[j]? = some u → (w.alloc (.cells cs.toArray t)).cell? ((⟨g, 0, none⟩ : Addr).add j) = some u := fun j u h => by
  subst hg
  have hb := Blk.new w t cs
  rw [Addr.add_lit, Nat.zero_add, hb.cell, h]
theorem Blk.new2 (w : World) (o : Obj) (t : TypeId) (cs : List Value) : Blk ((w.alloc o).alloc (.cells cs.toArray t)) (w.heap.size + 1) t cs := by
  have h := Blk.new (w.alloc o) t cs
  rwa [show (w.alloc o).heap.size = w.heap.size + 1 by simp] at h
theorem tok_one (t : Tok) (a c : Nat) : ∀ u ∈ tokCells t a c, u.oneCell' = true := fun u h => by
  simp only [tokCells, List.mem_cons, List.not_mem_nil, or_false] at h
  rcases h with rfl | rfl | rfl | rfl | rfl <;> rfl
theorem infoTok : (Tryd.prog.info? 67).map (fun i => (i.zero, i.size, i.bytes)) = some (some (.agg #[.int .i64 0, .string .empty, .int .i64 0, .int .i64 0, .int .i64 0]), 5, 48) := by kernel_rfl
set_option maxRecDepth 100000 in
set_option maxHeartbeats 2000000 in
theorem split_any (w : World) (A : Nat → Addr) (m : Int) (hL : Lx w A m) (l : List UInt8) (hl : l.length ≤ 4000) (T : List (Tok × Nat)) (b ea : Nat) (hT : Lex l 0 T b ea) :
    Calls Tryd.prog 13 #[.string (str l)] w (SplitR w A l T b ea) := by
  obtain ⟨i0, hi, hz0, hz1, hz2⟩ := info_parts infoTok
  have hz : (str l).size = l.length := strSize l
  have hlen : ¬ (4000 : Int) < (l.length : Int) := by omega
  have hn := str_toList
  have HT := Lib.hid hT
  clear hT
  go_enter Tryd.func13, Tryd.ntmps13
  go_wp2_with fail
  go_loopg [7, 4, 5, 6] l.length (fun g r v li co wx => ∃ (i : Nat) (out ts : List (Tok × Nat)), i + g = l.length ∧ out.length ≤ i ∧ r = .string (str (l.drop i)) ∧ li = .int .i64 ((placeAt l i).1 : Int) ∧ co = .int .i64 ((placeAt l i).2 : Int) ∧ Hid (T = out ++ ts) ∧ Hid (Lex l i ts b ea) ∧ wx.ownsRow w.heap.size 67 5 v (out.map (tokRow l)).length (out.map (tokRow l)).flatten ∧ Below w.heap.size w wx)
  case atStart => exact ⟨0, [], T, by omega, by simp, rfl, rfl, rfl, Lib.hid rfl, HT, World.ownsRow_nil _ _ _ _, Below.refl _ _⟩
  case round =>
    obtain ⟨i, out, ts, hig, hout, rfl, rfl, rfl, HO, HX, hown, hbr⟩ := hrel
    have hsz := hbr.size
    rcases HX.out.step with ⟨he, hts, hb⟩ | ⟨hlt, hb, hb0, hts, hea⟩ | ⟨hlt, hb, hk, hX⟩ | ⟨hlt, hb, hk, ts', hts, hX⟩
    · subst he
      rw [List.drop_length]
      have hTo : T = out := by rw [HO.out, hts, List.append_nil]
      clear hts
      go_wp2_with fail
      go_ret2
      exact ⟨hbr, .inl ⟨hb, _, rfl, by rw [hTo]; exact hown⟩⟩
    · have HF := Lib.hid (first_any wr A m (hL.below hbr) (l.drop i) (by rw [List.length_drop]; omega) (by rw [List.length_drop]; omega))
      have hemp : (l.drop i).isEmpty = false := by
        cases h : l.drop i with
        | nil => have := congrArg List.length h; rw [List.length_drop] at this; simp at this; omega
        | cons x t => rfl
      unfold FirstR at HF
      rw [hb] at HF
      obtain ⟨c, rfl⟩ : ∃ c, b = c + 1 := ⟨b - 1, by omega⟩
      rw [show errOf A (c + 1) = errV A c from rfl] at HF
      have hne := neq_errV A c
      subst hea
      generalize lfirst (l.drop ea) = F at *
      obtain ⟨t, s, b'⟩ := F
      simp only at HF
      clear hts hb hb0 HX HO
      generalize hD : l.drop ea = D at *
      clear hD
      unfold tokV tokCells at HF
      go_wp2_with fail
      refine HF.out.mono ?_
      rintro e w1 ⟨rfl, hb1⟩
      have hB1 := hbr.trans (hb1.mono hsz)
      have hz1 := hB1.size
      go_wp2_with fail
      go_ret2
      exact ⟨(hB1.alloc hz1 _).alloc (by simp; omega) _, .inr ⟨by omega, w1.heap.size + 1, rfl, by omega, Blk.new2 w1 _ _ _⟩⟩
    · have hO := HO
      have hDl : (l.drop i).length = l.length - i := List.length_drop
      have hs := lfirst_size (l := l.drop i) (by omega) hb
      have HF := Lib.hid (first_any wr A m (hL.below hbr) (l.drop i) (by omega) (by omega))
      have hemp : (l.drop i).isEmpty = false := by
        cases h : l.drop i with
        | nil => rw [h] at hDl; simp at hDl; omega
        | cons x t => rfl
      unfold FirstR at HF
      rw [hb, show errOf A 0 = Value.nilIface from rfl] at HF
      have hs0 := hs.1
      have hs1 := hs.2.1
      have hup := str_upto (l.drop i) (lfirst (l.drop i)).2.1 hs1
      have hfr := str_from (l.drop i) (lfirst (l.drop i)).2.1 hs1
      rw [List.drop_drop] at hfr
      have hpl := placeAt_le l i
      have HP := Lib.hid (fun (u : World) => by
        have h := behind_any u (placeAt l i) ((l.drop i).take (lfirst (l.drop i)).2.1) (by rw [List.length_take]; omega) (by omega) (by omega)
        rw [← placeAt_more] at h
        exact h)
      have HX' := Lib.hid hX
      generalize lfirst (l.drop i) = F at *
      obtain ⟨⟨tk, tt, tn⟩, s, b'⟩ := F
      simp only at HF hk HX' hup hfr HP hs0 hs1 hO
      clear hs hb hX HX HO hpl
      generalize hD : l.drop i = D at *
      clear hD
      unfold tokV tokCells at HF
      have hkz : ((tk : Nat) : Int) = 0 := by omega
      clear hk
      go_wp2_with fail
      refine HF.out.mono ?_
      rintro e w1 ⟨rfl, hb1⟩
      have hown1 := rowk_below hown hb1
      have hB1 := hbr.trans (hb1.mono hsz)
      have hz1 := hB1.size
      go_wp2_with fail
      refine (HP.out _).mono ?_
      rintro e w2 ⟨rfl, rfl⟩
      go_wp2_with fail
      go_roundg (gk - s)
      case measure => omega
      case rel => exact ⟨i + s, out, ts, by omega, by omega, rfl, rfl, rfl, hO, HX', World.ownsRow.alloc hown1 _, hB1.alloc hz1 _⟩
    · have hO := Lib.hid (show T = (out ++ [((lfirst (l.drop i)).1, i)]) ++ ts' by rw [HO.out, hts]; simp)
      have hDl : (l.drop i).length = l.length - i := List.length_drop
      have hs := lfirst_size (l := l.drop i) (by omega) hb
      have HF := Lib.hid (first_any wr A m (hL.below hbr) (l.drop i) (by omega) (by omega))
      have hemp : (l.drop i).isEmpty = false := by
        cases h : l.drop i with
        | nil => rw [h] at hDl; simp at hDl; omega
        | cons x t => rfl
      unfold FirstR at HF
      rw [hb, show errOf A 0 = Value.nilIface from rfl] at HF
      have hs0 := hs.1
      have hs1 := hs.2.1
      have hup := str_upto (l.drop i) (lfirst (l.drop i)).2.1 hs1
      have hfr := str_from (l.drop i) (lfirst (l.drop i)).2.1 hs1
      rw [List.drop_drop] at hfr
      have hpl := placeAt_le l i
      have HP := Lib.hid (fun (u : World) => by
        have h := behind_any u (placeAt l i) ((l.drop i).take (lfirst (l.drop i)).2.1) (by rw [List.length_take]; omega) (by omega) (by omega)
        rw [← placeAt_more] at h
        exact h)
      have HX' := Lib.hid hX
      generalize lfirst (l.drop i) = F at *
      obtain ⟨⟨tk, tt, tn⟩, s, b'⟩ := F
      simp only at HF hk HX' hup hfr HP hs0 hs1 hO
      clear hs hb hX HX HO hpl hts
      generalize hD : l.drop i = D at *
      clear hD
      unfold tokV tokCells at HF
      have hkz : ¬ ((tk : Nat) : Int) = 0 := by omega
      clear hk
      go_wp2_with fail
      refine HF.out.mono ?_
      rintro e w1 ⟨rfl, hb1⟩
      have hown1 := rowk_below hown hb1
      have hB1 := hbr.trans (hb1.mono hsz)
      have hz1 := hB1.size
      go_wp2_with (at_builtin; go_must (refine wpList_append_own_at _ rfl (.tmp 42) (.tmp 44) 50 rfl w.heap.size 67 i0 (.agg #[.int .i64 0, .string .empty, .int .i64 0, .int .i64 0, .int .i64 0]) 5 48 Tryd.underlying50 hi hz0 (by assumption) hz2 rfl (by decide) _ _ _ rfl ((World.ownsRow.alloc hown1 _).alloc _) ⟨w1.heap.size + 1, 0, none⟩ 1 1 (tokCells ⟨tk, tt, tn⟩ (placeAt l i).1 (placeAt l i).2) rfl rfl (newCells _ _ (tokCells ⟨tk, tt, tn⟩ (placeAt l i).1 (placeAt l i).2) _ (by simp)) (tok_one _ _ _) (by rw [List.length_map]; unfold maxLen; omega) (by rw [List.length_map]; omega) (by simp; omega) ?_); intro v3 w3 hown3 hg3 hn3 ha3)
      have hb3 := ((hB1.alloc hz1 _).alloc (by simp; omega) _).grown hg3 (by simp; omega) (fun g h => (hown1.lt g h).1)
      have hown4 : w3.ownsRow w.heap.size 67 5 v3 ((out ++ [((⟨tk, tt, tn⟩ : Tok), i)]).map (tokRow l)).length ((out ++ [((⟨tk, tt, tn⟩ : Tok), i)]).map (tokRow l)).flatten := by
        rw [List.map_append, List.length_append, List.flatten_append, show (List.map (tokRow l) [((⟨tk, tt, tn⟩ : Tok), i)]).flatten = tokCells ⟨tk, tt, tn⟩ (placeAt l i).1 (placeAt l i).2 from by simp [tokRow]]
        exact hown3
      clear hown3 hg3 hn3 ha3
      refine (HP.out _).mono ?_
      rintro e w2 ⟨rfl, rfl⟩
      go_wp2_with fail
      go_roundg (gk - s)
      case measure => omega
      case rel => exact ⟨i + s, out ++ [((⟨tk, tt, tn⟩ : Tok), i)], ts', by omega, by simp; omega, rfl, rfl, rfl, hO, HX', hown4, hb3⟩
set_option maxRecDepth 100000 in
set_option maxHeartbeats 1000000 in
theorem split_long (w : World) (A : Nat → Addr) (m : Int) (hL : Lx w A m) (l : List UInt8) (hl : 4000 < l.length) :
    Calls Tryd.prog 13 #[.string (str l)] w fun e w' => Below w.heap.size w w' ∧ ∃ g, e = .returned (.tuple #[.slice none 0 0, .iface tF (.pointer (some ⟨g, 0, none⟩))]) ∧ w.heap.size ≤ g ∧ Blk w' g 65 [.int .i64 0, .int .i64 0, errV A 2] := by
  have hz : (str l).size = l.length := strSize l
  have hlen : (4000 : Int) < (l.length : Int) := by omega
  have hlong := hL.long
  go_enter Tryd.func13, Tryd.ntmps13
  go_wp2_with fail
  go_region
  all_goals
    go_wp2_with fail
    go_ret2
    exact ⟨below_drewN ((Below.refl _ _).alloc (Nat.le_refl _) _) 1, w.heap.size, rfl, Nat.le_refl _, (Blk.new w _ _).drew⟩
end Go.Proofs.YtekeanikgcpijaaDoor
namespace Go.Proofs.YtekeanikgcpijaaDoor
open Go.RowKit
structure LxG (gls : List (Nat × List Value)) (A : Nat → Addr) (m : Int) : Prop where
 range : (4, [errV A 0]) ∈ gls
 long : (0, [errV A 2]) ∈ gls
 form : (3, [errV A 8]) ∈ gls
 max : (2, [.int .i64 m]) ∈ gls
theorem LxG.lx {gls : List (Nat × List Value)} {A : Nat → Addr} {m : Int} (h : LxG gls A m) {w : World} (hG : GlOK gls w) : Lx w A m :=
 ⟨(hG _ _ h.range).2 0 _ rfl, (hG _ _ h.long).2 0 _ rfl, (hG _ _ h.form).2 0 _ rfl, (hG _ _ h.max).2 0 _ rfl⟩
abbrev fltR (A : Nat → Addr) (li co b : Nat) : Part := .one (.ifc 63 (.ptr 65 [.cell (.int .i64 (li : Int)), .cell (.int .i64 (co : Int)), .cell (errOf A b)]))
abbrev nilS : Part := .one (.cell (.slice none 0 0))
theorem tksOf_cells (s : List UInt8) (ts : List (Tok × Nat)) : (tksOf s ts).flatMap tkD = (ts.map (tokRow s)).flatten.map .cell := by
 unfold tksOf
 induction ts with
 | nil => rfl
 | cons x ts ih =>
  rw [List.map_cons, List.flatMap_cons, List.map_cons, List.flatten_cons, List.map_append, ih]
  rfl
theorem toks_lies {w w' : World} {D : Nat → Prop} {e : TypeId} {s : List UInt8} {ts : List (Tok × Nat)} {v : Value} (hb : Below w.heap.size w w') (h : w'.ownsRow w.heap.size e 5 v (ts.map (tokRow s)).length (ts.map (tokRow s)).flatten) : Lies w' (Dr w D w') (.row 5 (tksOf s ts).length ((tksOf s ts).flatMap tkD)) v := by
 have hf : Fits w' (fun _ => False) ((tksOf s ts).flatMap tkD) (ts.map (tokRow s)).flatten := by
  rw [tksOf_cells]
  exact fits_cells _ _ _
 have hn : (ts.map (tokRow s)).length = (tksOf s ts).length := by simp [tksOf]
 rw [hn] at h
 have hg : Gr w' (fun _ => False) w.heap.size e 5 v (tksOf s ts).length ((tksOf s ts).flatMap tkD) := ⟨_, h, hf⟩
 exact hg.lies (fun g h => h.elim) fun g hg => .inr (h.lt g hg)
theorem one_str {w : World} {D : Nat → Prop} {v : Value} {vs : List Value} (h : PsFit w D [.one (.cell v)] vs) : vs = [v] := by
 cases vs with
 | nil => exact h.elim
 | cons x vs =>
  obtain ⟨h1, h2⟩ := h
  cases vs with
  | nil => rw [Lies.cell_eq h1]
  | cons _ _ => exact h2.elim
def SpY (A : Nat → Addr) (s : List UInt8) (T : List (Tok × Nat)) (b ea : Nat) (y : IV) : Prop :=
 (b = 0 ∧ y = .tup [tksP (tksOf s T), nilP]) ∨ (b ≠ 0 ∧ y = .tup [nilS, fltR A (placeAt s ea).1 (placeAt s ea).2 b])
theorem split_y {gls : List (Nat × List Value)} {A : Nat → Addr} {m : Int} (hg : LxG gls A m) (s : List UInt8) (hs : s.length ≤ 4000) (T : List (Tok × Nat)) (b ea : Nat) (hT : Lex s 0 T b ea) : EFx Tryd.prog gls 13 [sP s] (SpY A s T b ea) := fun w D vs hD hG hp => by
 rw [one_str hp]
 refine (split_any w A m (hg.lx hG) s hs T b ea hT).mono ?_
 rintro e w' ⟨hb, (⟨h0, v, rfl, hown⟩ | ⟨h0, g, rfl, hgs, hgb⟩)⟩
 ·exact ⟨_, _, rfl, .inl ⟨h0, rfl⟩, hb, fun M V => ⟨[v, .nilIface], rfl, toks_lies hb hown, .cell _, trivial⟩⟩
 ·exact ⟨_, _, rfl, .inr ⟨h0, rfl⟩, hb, fun M V => ⟨[.slice none 0 0, .iface tF (.pointer (some ⟨g, 0, none⟩))], rfl, .cell _, .ifc _ _ _ (.ptr _ _ _ _ (.inr ⟨hgs, hgb.lt⟩) hgb rfl fun j d x hd hx => by
   match j, hd, hx with
   | 0, hd, hx => cases hd; cases hx; exact .cell _
   | 1, hd, hx => cases hd; cases hx; exact .cell _
   | 2, hd, hx => cases hd; cases hx; exact .cell _), trivial⟩⟩
theorem split_l {gls : List (Nat × List Value)} {A : Nat → Addr} {m : Int} (hg : LxG gls A m) (s : List UInt8) (hs : 4000 < s.length) : EF Tryd.prog gls 13 [sP s] (.tup [nilS, fltR A 0 0 3]) := fun w D vs hD hG hp => by
 rw [one_str hp]
 refine (split_long w A m (hg.lx hG) s hs).mono ?_
 rintro e w' ⟨hb, g, rfl, hgs, hgb⟩
 exact ⟨_, _, rfl, rfl, hb, fun M V => ⟨[.slice none 0 0, .iface tF (.pointer (some ⟨g, 0, none⟩))], rfl, .cell _, .ifc _ _ _ (.ptr _ _ _ _ (.inr ⟨hgs, hgb.lt⟩) hgb rfl fun j d x hd hx => by
   match j, hd, hx with
   | 0, hd, hx => cases hd; cases hx; exact .cell _
   | 1, hd, hx => cases hd; cases hx; exact .cell _
   | 2, hd, hx => cases hd; cases hx; exact .cell _), trivial⟩⟩
end Go.Proofs.YtekeanikgcpijaaDoor
namespace Go.Proofs.YtekeanikgcpijaaDoor
def E89 {α : Type} (r : Ans8 α) : Prop := ∀ e, r = .error e → e.2 = 8 ∨ e.2 = 9
theorem e89_ok {α : Type} (x : α) : E89 (.ok x : Ans8 α) := fun e h => by cases h
theorem e89_form {α : Type} (p : Nat) : E89 (form8 p : Ans8 α) := fun e h => by
 unfold form8 at h
 injection h with h
 subst h
 exact .inr rfl
theorem e89_err {α β : Type} {r : Ans8 α} {e : Nat × Nat} (hr : E89 r) (h : r = .error e) : E89 (.error e : Ans8 β) := fun e' h' => by
 injection h' with h'
 subst h'
 exact hr _ h
theorem sWant_e (l : List Tk) (k : Nat) (t : List UInt8) (p : Nat) : E89 (sWant l k t p) := by
 unfold sWant
 repeat' split
 all_goals first
  | exact e89_ok _
  | exact e89_form _
theorem sName_e (l : List Tk) (p : Nat) : E89 (sName l p) := by
 unfold sName
 repeat' split
 all_goals first
  | exact e89_ok _
  | exact e89_form _
theorem sNumber_e (l : List Tk) (p : Nat) : E89 (sNumber l p) := by
 unfold sNumber
 repeat' split
 all_goals first
  | exact e89_ok _
  | exact e89_form _
theorem sText_e (l : List Tk) (p : Nat) : E89 (sText l p) := by
 unfold sText
 repeat' split
 all_goals first
  | exact e89_ok _
  | exact e89_form _
theorem sDots_e (l : List Tk)  : ∀ (n : Nat) (s : List UInt8) (p : Nat), E89 (sDots l n s p)
 | 0, s, p => by
  rw [sDots]
  exact e89_form _
 | n + 1, s, p => by
  rw [sDots]
  repeat' split
  all_goals first
   | exact e89_ok _
   | exact e89_form _
   | exact sName_e l _
   | exact e89_err (sName_e l _) (by assumption)
   | exact sDots_e l n _ _
   | exact e89_err (sDots_e l n _ _) (by assumption)
theorem sDotted_e (l : List Tk) (b : Bool) (p : Nat) : E89 (sDotted l b p) := by
 unfold sDotted
 repeat' split
 all_goals first
  | exact e89_ok _
  | exact e89_form _
  | exact sDots_e l _ _ _
  | exact e89_err (sDots_e l _ _ _) (by assumption)
theorem sOption_e (l : List Tk) (f : Fld) (p : Nat) : E89 (sOption l f p) := by
 unfold sOption
 repeat' split
 all_goals first
  | exact e89_ok _
  | exact e89_form _
  | exact sWant_e l _ _ _
  | exact e89_err (sWant_e l _ _ _) (by assumption)
  | exact sName_e l _
  | exact e89_err (sName_e l _) (by assumption)
theorem sOpts_e (l : List Tk)  : ∀ (n : Nat) (f : Fld) (p : Nat), E89 (sOpts l n f p)
 | 0, f, p => by
  rw [sOpts]
  exact e89_form _
 | n + 1, f, p => by
  rw [sOpts]
  repeat' split
  all_goals first
   | exact e89_ok _
   | exact e89_form _
   | exact sOption_e l _ _
   | exact e89_err (sOption_e l _ _) (by assumption)
   | exact sWant_e l _ _ _
   | exact e89_err (sWant_e l _ _ _) (by assumption)
   | exact sOpts_e l n _ _
   | exact e89_err (sOpts_e l n _ _) (by assumption)
theorem sOptions_e (l : List Tk) (f : Fld) (p : Nat) : E89 (sOptions l f p) := by
 unfold sOptions
 repeat' split
 all_goals first
  | exact e89_ok _
  | exact e89_form _
  | exact sOpts_e l _ _ _
  | exact e89_err (sOpts_e l _ _ _) (by assumption)
  | exact sWant_e l _ _ _
  | exact e89_err (sWant_e l _ _ _) (by assumption)
theorem sRest_e (l : List Tk) (f : Fld) (p : Nat) : E89 (sRest l f p) := by
 unfold sRest
 repeat' split
 all_goals first
  | exact e89_ok _
  | exact e89_form _
  | exact sName_e l _
  | exact e89_err (sName_e l _) (by assumption)
  | exact sWant_e l _ _ _
  | exact e89_err (sWant_e l _ _ _) (by assumption)
  | exact sNumber_e l _
  | exact e89_err (sNumber_e l _) (by assumption)
  | exact sOptions_e l _ _
  | exact e89_err (sOptions_e l _ _) (by assumption)
theorem sField_e (l : List Tk) (p : Nat) (a b : Int) : E89 (sField l p a b) := by
 unfold sField
 repeat' split
 all_goals first
  | exact e89_ok _
  | exact e89_form _
  | exact sDotted_e l _ _
  | exact e89_err (sDotted_e l _ _) (by assumption)
  | exact sRest_e l _ _
  | exact e89_err (sRest_e l _ _) (by assumption)
theorem sMapped_e (l : List Tk) (p : Nat) : E89 (sMapped l p) := by
 unfold sMapped
 repeat' split
 all_goals first
  | exact e89_ok _
  | exact e89_form _
  | exact sWant_e l _ _ _
  | exact e89_err (sWant_e l _ _ _) (by assumption)
  | exact sName_e l _
  | exact e89_err (sName_e l _) (by assumption)
  | exact sDotted_e l _ _
  | exact e89_err (sDotted_e l _ _) (by assumption)
  | exact sRest_e l _ _
  | exact e89_err (sRest_e l _ _) (by assumption)
theorem sHead_e (l : List Tk) (p : Nat) : E89 (sHead l p) := by
 unfold sHead
 repeat' split
 all_goals first
  | exact e89_ok _
  | exact e89_form _
  | exact sName_e l _
  | exact e89_err (sName_e l _) (by assumption)
  | exact sWant_e l _ _ _
  | exact e89_err (sWant_e l _ _ _) (by assumption)
theorem sValue_e (l : List Tk) (p : Nat) : E89 (sValue l p) := by
 unfold sValue
 repeat' split
 all_goals first
  | exact e89_ok _
  | exact e89_form _
  | exact sName_e l _
  | exact e89_err (sName_e l _) (by assumption)
  | exact sWant_e l _ _ _
  | exact e89_err (sWant_e l _ _ _) (by assumption)
  | exact sNumber_e l _
  | exact e89_err (sNumber_e l _) (by assumption)
theorem sVals_e (l : List Tk)  : ∀ (n : Nat) (vs : List Val) (p : Nat), E89 (sVals l n vs p)
 | 0, vs, p => by
  rw [sVals]
  exact e89_form _
 | n + 1, vs, p => by
  rw [sVals]
  repeat' split
  all_goals first
   | exact e89_ok _
   | exact e89_form _
   | exact sValue_e l _
   | exact e89_err (sValue_e l _) (by assumption)
   | exact sVals_e l n _ _
   | exact e89_err (sVals_e l n _ _) (by assumption)
theorem sEnum_e (l : List Tk) (p : Nat) : E89 (sEnum l p) := by
 unfold sEnum
 repeat' split
 all_goals first
  | exact e89_ok _
  | exact e89_form _
  | exact sHead_e l _
  | exact e89_err (sHead_e l _) (by assumption)
  | exact sVals_e l _ _ _
  | exact e89_err (sVals_e l _ _ _) (by assumption)
theorem sFlds_e (l : List Tk) (w : Int) : ∀ (n : Nat) (vs : List Fld) (p : Nat), E89 (sFlds l w n vs p)
 | 0, vs, p => by
  rw [sFlds]
  exact e89_form _
 | n + 1, vs, p => by
  rw [sFlds]
  repeat' split
  all_goals first
   | exact e89_ok _
   | exact e89_form _
   | exact sField_e l _ _ _
   | exact e89_err (sField_e l _ _ _) (by assumption)
   | exact sFlds_e l w n _ _
   | exact e89_err (sFlds_e l w n _ _) (by assumption)
theorem sOneof_e (l : List Tk) (p : Nat) (w : Int) : E89 (sOneof l p w) := by
 unfold sOneof
 repeat' split
 all_goals first
  | exact e89_ok _
  | exact e89_form _
  | exact sHead_e l _
  | exact e89_err (sHead_e l _) (by assumption)
  | exact sFlds_e l _ _ _ _
  | exact e89_err (sFlds_e l _ _ _ _) (by assumption)
theorem sRange_e (l : List Tk) (p : Nat) : E89 (sRange l p) := by
 unfold sRange
 repeat' split
 all_goals first
  | exact e89_ok _
  | exact e89_form _
  | exact sNumber_e l _
  | exact e89_err (sNumber_e l _) (by assumption)
theorem sRanges_e (l : List Tk)  : ∀ (n : Nat) (s : List (Int × Int)) (p : Nat), E89 (sRanges l n s p)
 | 0, s, p => by
  rw [sRanges]
  exact e89_form _
 | n + 1, s, p => by
  rw [sRanges]
  repeat' split
  all_goals first
   | exact e89_ok _
   | exact e89_form _
   | exact sRange_e l _
   | exact e89_err (sRange_e l _) (by assumption)
   | exact sWant_e l _ _ _
   | exact e89_err (sWant_e l _ _ _) (by assumption)
   | exact sRanges_e l n _ _
   | exact e89_err (sRanges_e l n _ _) (by assumption)
theorem sTexts_e (l : List Tk)  : ∀ (n : Nat) (s : List (List UInt8)) (p : Nat), E89 (sTexts l n s p)
 | 0, s, p => by
  rw [sTexts]
  exact e89_form _
 | n + 1, s, p => by
  rw [sTexts]
  repeat' split
  all_goals first
   | exact e89_ok _
   | exact e89_form _
   | exact sText_e l _
   | exact e89_err (sText_e l _) (by assumption)
   | exact sWant_e l _ _ _
   | exact e89_err (sWant_e l _ _ _) (by assumption)
   | exact sTexts_e l n _ _
   | exact e89_err (sTexts_e l n _ _) (by assumption)
theorem sReserved_e (l : List Tk) (p : Nat) : E89 (sReserved l p) := by
 unfold sReserved
 repeat' split
 all_goals first
  | exact e89_ok _
  | exact e89_form _
  | exact sTexts_e l _ _ _
  | exact e89_err (sTexts_e l _ _ _) (by assumption)
  | exact sRanges_e l _ _ _
  | exact e89_err (sRanges_e l _ _ _) (by assumption)
theorem sPart_e (l : List Tk) (sub : Nat → Ans8 (Msg × Nat)) (hs : ∀ p, E89 (sub p)) (m : Msg) (p : Nat) : E89 (sPart l sub m p) := by
 unfold sPart
 dsimp only
 split
 ·split
  ·exact e89_err (hs _) (by assumption)
  ·exact e89_ok _
 split
 ·split
  ·exact e89_err (sEnum_e l _) (by assumption)
  ·exact e89_ok _
 split
 ·split
  ·exact e89_err (sOneof_e l _ _) (by assumption)
  ·exact e89_ok _
 split
 ·split
  ·exact e89_err (sReserved_e l _) (by assumption)
  ·exact e89_ok _
 split
 ·rename_i h
  refine e89_err ?_ h
  split
  ·exact sField_e l _ _ _
  split
  ·exact sField_e l _ _ _
  split
  ·exact sMapped_e l _
  ·exact sField_e l _ _ _
 ·exact e89_ok _
theorem sBody_e (l : List Tk) (sub : Nat → Ans8 (Msg × Nat)) (hs : ∀ p, E89 (sub p)) : ∀ (n : Nat) (m : Msg) (p : Nat), E89 (sBody l sub n m p)
 | 0, m, p => by
  rw [sBody]
  exact e89_form _
 | n + 1, m, p => by
  rw [sBody]
  split
  ·exact e89_ok _
  split
  ·exact e89_err (sPart_e l sub hs _ _) (by assumption)
  ·exact sBody_e l sub hs n _ _
theorem sMessage_e (l : List Tk) : ∀ (d p : Nat), E89 (sMessage l d p)
 | 0, p => by
  rw [sMessage]
  split
  ·exact e89_err (sName_e l _) (by assumption)
  ·intro e h
   injection h with h
   subst h
   exact .inl rfl
 | d + 1, p => by
  rw [sMessage]
  split
  ·exact e89_err (sName_e l _) (by assumption)
  split
  ·exact e89_err (sWant_e l _ _ _) (by assumption)
  ·exact sBody_e l _ (sMessage_e l d) _ _ _
theorem sParts_e (l : List Tk) : ∀ (n : Nat) (f : Fil) (p : Nat), E89 (sParts l n f p)
 | 0, f, p => by
  rw [sParts]
  exact e89_form _
 | n + 1, f, p => by
  rw [sParts]
  repeat' split
  all_goals first
   | exact e89_ok _
   | exact e89_form _
   | exact sParts_e l n _ _
   | exact e89_err (sMessage_e l _ _) (by assumption)
   | exact e89_err (sEnum_e l _) (by assumption)
theorem sPackage_e (l : List Tk) (p : Nat) : E89 (sPackage l p) := by
 unfold sPackage
 repeat' split
 all_goals first
  | exact e89_ok _
  | exact e89_err (sWant_e l _ _ _) (by assumption)
  | exact e89_err (sDotted_e l _ _) (by assumption)
theorem sFile_e (l : List Tk) : E89 (sFile l) := by
 unfold sFile
 repeat' split
 all_goals first
  | exact e89_ok _
  | exact e89_form _
  | exact sParts_e l _ _ _
  | exact e89_err (sWant_e l _ _ _) (by assumption)
  | exact e89_err (sText_e l _) (by assumption)
  | exact e89_err (sPackage_e l _) (by assumption)
end Go.Proofs.YtekeanikgcpijaaDoor
namespace Go.Proofs.YtekeanikgcpijaaDoor
open Go.RowKit
abbrev E8A (A : Nat → Addr) : Er := (tE, .pointer (some (A 7)))
abbrev E9A (A : Nat → Addr) : Er := (tE, .pointer (some (A 8)))
abbrev An := Fil × Nat × Nat × Nat
def sAns (s : List UInt8) (T : List (Tok × Nat)) (b ea : Nat) : An := if b = 0 then sParse (tksOf s T) else (fil0, b, (placeAt s ea).1, (placeAt s ea).2)
def progY (A : Nat → Addr) (x : An) : IV := .tup [FQ x.1, if x.2.1 = 0 then nilP else fltR A x.2.2.1 x.2.2.2 x.2.1]
structure OfG (gls : List (Nat × List Value)) (A : Nat → Addr) (m : Int) : Prop where
 lx : LxG gls A m
 sub : ∀ x, x ∈ gE (E8A A) (E9A A) → x ∈ gls
theorem sParse_err {l : List Tk} {a c : Nat} (h : sFile l = .error (a, c)) : sParse l = (fil0, c, (tkAt l a).2.1, (tkAt l a).2.2) ∧ (c = 8 ∨ c = 9) := by
 refine ⟨?_, sFile_e l _ h⟩
 unfold sParse
 rw [h]
 unfold placeOf
 dsimp only
 split
 ·rfl
 ·rename_i hn
  have : tkAt l a = tk0 := by
   unfold tkAt
   rw [List.getD_eq_getElem?_getD, List.getElem?_eq_none (by omega)]
   rfl
  rw [this]
  rfl
theorem sParse_fil {l : List Tk} {f : Fil} (h : sFile l = .ok f) : sParse l = (f, 0, 0, 0) := by
 unfold sParse
 rw [h]
set_option maxRecDepth 100000 in
theorem of_y {gls : List (Nat × List Value)} {A : Nat → Addr} {m : Int} (hg : OfG gls A m) (s : List UInt8) (hs : s.length ≤ 4000) (T : List (Tok × Nat)) (b ea : Nat) (hT : Lex s 0 T b ea) : EF Tryd.prog gls 6 [sP s] (progY A (sAns s T b ea)) := by
 refine ef_enter 19 Tryd.func6 rfl rfl rfl fun w D => ?_
 try refine e_fl ?_
 refine e_list ?_
 refine e_alloc 2 [.is (.string ⟨#[]⟩), .is (.slice none 0 0), .is (.slice none 0 0)] rfl rfl rfl rfl zr_28 (fun w D M V => ⟨rfl, fun j x v h1 h2 => cfit_is _ h1 h2 rfl⟩) rfl rfl rfl rfl ?_
 refine l_as ?_
 refine e_nil ?_
 try refine e_fl ?_
 refine e_list ?_
 refine l_mv ?_
 refine e_list_call rfl rfl rfl rfl (by kernel_rfl) (split_y hg.lx s hs T b ea hT) ⟨(kn rfl), trivial⟩ ?_
 rintro _ (⟨h0, rfl⟩ | ⟨h0, rfl⟩)
 ·have ha : sAns s T b ea = sParse (tksOf s T) := if_pos h0
  refine l_mv ?_
  refine l_ex ?_
  refine l_ex ?_
  refine l_as ?_
  refine l_as ?_
  refine e_nil ?_
  try refine e_fl ?_
  refine e_plain (w_mv rfl rfl rfl rfl rfl (w_op rfl rfl rfl (s_nil_neq rfl (kn rfl) ifc_30) .nil)) ?_
  try refine e_fl ?_
  refine c_no ?_
  try refine e_fl ?_
  refine e_list ?_
  refine l_mv ?_
  refine e_list_call rfl rfl rfl rfl (by kernel_rfl) ((par_y (E8A A) (E9A A) (tksOf s T) (tksOf_ok hs hT)).more hg.sub) ⟨(kn rfl), trivial⟩ ?_
  rintro _ (⟨a, c, he, rfl⟩ | ⟨f, ho, rfl⟩)
  ·obtain ⟨hp, hc⟩ := sParse_err he
   refine l_ex ?_
   refine l_ex ?_
   refine e_storew rfl rfl rfl (kn rfl) rfl (kn rfl) rfl rfl sz_28 ?_
   refine l_as ?_
   refine e_nil ?_
   try refine e_fl ?_
   exact e_return rfl rfl (.cell rfl rfl rfl agg_28 sz_28 rfl (.tmp (kn rfl) (.nil))) (file_imp (f := fil0) rfl (DImp.nil 9) (DImp.nil 4)) (by rw [ha, hp]; rcases hc with rfl | rfl <;> rfl)
  ·refine l_ex ?_
   refine l_ex ?_
   refine e_storew rfl rfl rfl (kn rfl) rfl (kn rfl) rfl rfl sz_28 ?_
   refine l_as ?_
   refine e_nil ?_
   try refine e_fl ?_
   exact e_return rfl rfl (.cell rfl rfl rfl agg_28 sz_28 rfl (.tmp (kn rfl) (.nil))) (Imp.refl _) (by rw [ha, sParse_fil ho]; rfl)
 ·have ha : sAns s T b ea = (fil0, b, (placeAt s ea).1, (placeAt s ea).2) := if_neg h0
  refine l_mv ?_
  refine l_ex ?_
  refine l_ex ?_
  refine l_as ?_
  refine l_as ?_
  refine e_nil ?_
  try refine e_fl ?_
  refine e_plain (w_mv rfl rfl rfl rfl rfl (w_op rfl rfl rfl (s_err_neq rfl (kn rfl) rfl ifc_30) .nil)) ?_
  try refine e_fl ?_
  refine c_yes ?_
  try refine e_fl ?_
  refine e_list ?_
  refine l_op (s_build (ds := [_, _, _]) [] rfl trivial rfl pl_28 zr_28 (fun w D => .cons (.cell _) (.cons (.cell _) (.cons (.cell _) (.nil _ _)))) rfl) ?_
  refine l_mv ?_
  refine e_storew rfl rfl rfl (kn rfl) rfl (kn rfl) rfl rfl sz_28 ?_
  refine l_as ?_
  refine e_nil ?_
  try refine e_fl ?_
  exact e_return rfl rfl (.cell rfl rfl rfl agg_28 sz_28 rfl (.tmp (kn rfl) (.nil))) (file_imp (f := fil0) rfl (DImp.nil 9) (DImp.nil 4)) (by rw [ha]; simp only [progY, if_neg h0])
set_option maxRecDepth 100000 in
theorem of_l {gls : List (Nat × List Value)} {A : Nat → Addr} {m : Int} (hg : OfG gls A m) (s : List UInt8) (hs : 4000 < s.length) : EF Tryd.prog gls 6 [sP s] (progY A (fil0, 3, 0, 0)) := by
 refine ef_enter 19 Tryd.func6 rfl rfl rfl fun w D => ?_
 try refine e_fl ?_
 refine e_list ?_
 refine e_alloc 2 [.is (.string ⟨#[]⟩), .is (.slice none 0 0), .is (.slice none 0 0)] rfl rfl rfl rfl zr_28 (fun w D M V => ⟨rfl, fun j x v h1 h2 => cfit_is _ h1 h2 rfl⟩) rfl rfl rfl rfl ?_
 refine l_as ?_
 refine e_nil ?_
 try refine e_fl ?_
 refine e_plain (w_mv rfl rfl rfl rfl rfl (w_op rfl rfl rfl (s_call rfl (by kernel_rfl) (split_l hg.lx s hs) ⟨(kn rfl), trivial⟩) (w_mv rfl rfl rfl rfl rfl (w_op rfl rfl rfl (s_extract rfl (kn rfl) rfl) (w_op rfl rfl rfl (s_extract rfl (kn rfl) rfl) (w_as rfl rfl rfl rfl rfl (w_as rfl rfl rfl rfl rfl .nil))))))) ?_
 try refine e_fl ?_
 refine e_plain (w_mv rfl rfl rfl rfl rfl (w_op rfl rfl rfl (s_err_neq rfl (kn rfl) rfl ifc_30) .nil)) ?_
 try refine e_fl ?_
 refine c_yes ?_
 try refine e_fl ?_
 refine e_list ?_
 refine l_op (s_build (ds := [_, _, _]) [] rfl trivial rfl pl_28 zr_28 (fun w D => .cons (.cell _) (.cons (.cell _) (.cons (.cell _) (.nil _ _)))) rfl) ?_
 refine l_mv ?_
 refine e_storew rfl rfl rfl (kn rfl) rfl (kn rfl) rfl rfl sz_28 ?_
 refine l_as ?_
 refine e_nil ?_
 try refine e_fl ?_
 exact e_return rfl rfl (.cell rfl rfl rfl agg_28 sz_28 rfl (.tmp (kn rfl) (.nil))) (file_imp (f := fil0) rfl (DImp.nil 9) (DImp.nil 4)) (rfl)
end Go.Proofs.YtekeanikgcpijaaDoor
namespace Go.Proofs.YtekeanikgcpijaaDoor
open Go.RowKit
theorem sFile_fine {l : List Tk} (hl : l.length ≤ 100000) {f : Fil} (h : sFile l = .ok f) : f.fine := by
 rw [sFile_syn] at h
 split at h
 ·cases h
 rename_i q hq
 have hq := sSyn_le hq
 split at h
 ·cases h
 rename_i pk u hpk
 refine sParts_fine hl _ _ u ⟨Nat.zero_le _, Nat.zero_le _, fun x hx => (by cases hx), fun x hx => (by cases hx)⟩ (Nat.zero_le _) (Nat.zero_le _) ?_ h
 unfold sPackage at hpk
 split at hpk
 ·split at hpk
  ·cases hpk
  rename_i hd
  have := sDotted_ok hd
  split at hpk
  ·cases hpk
  rename_i hw
  have := sWant_ok hw
  injection hpk with hpk
  injection hpk with h1 h2
  subst h2
  omega
 ·injection hpk with hpk
  injection hpk with h1 h2
  subst h2
  exact hq
abbrev glA (A : Nat → Addr) (m : Int) : List (Nat × List Value) := [(4, [errV A 0]), (0, [errV A 2]), (5, [errV A 7]), (3, [errV A 8]), (2, [.int .i64 m])]
theorem glA_of (A : Nat → Addr) (m : Int) : OfG (glA A m) A m := ⟨⟨by simp [glA], by simp [glA], by simp [glA], by simp [glA]⟩, fun x hx => by
 rcases List.mem_cons.1 hx with rfl | hx
 ·simp [glA]
 ·rcases List.mem_cons.1 hx with rfl | hx
  ·simp [glA]
  ·cases hx⟩
end Go.Proofs.YtekeanikgcpijaaDoor
