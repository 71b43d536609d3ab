/- Part 35 of what the last text of this claim is proved by: walks over the program, and the math behind them. Conditions: as each theorem says. -/
import Derived.Test.YtfcjeciepadmeaaGreatDoorTx34
import Derived.Test.YtfcjeciepadmeaaGreatDoorProg
import Derived.Maps.AppendAt
import Derived.RegionTactic
import Derived.ChangeAlike
namespace Go.Proofs.YtfcjeciepadmeaaGreatDoor
open Go.RowKit
theorem lplace_next (p : Nat × Nat) {l : List UInt8} {j : Nat} {b : UInt8} (h : l[j]? = some b) : lplace p (l.take (j + 1)) = if b = 10 then ((lplace p (l.take j)).1 + 1, 1) else ((lplace p (l.take j)).1, (lplace p (l.take j)).2 + 1) := by
  rw [show l.take (j + 1) = l.take j ++ [b] from by rw [List.take_add_one, h]; rfl, lplace_snoc]
theorem lplace_round (p : Nat × Nat) {l : List UInt8} {j : Nat} {b : UInt8} (h : l[j]? = some b) (a c : Int) (ha : a = ((lplace p (l.take j)).1 : Int)) (hc : c = ((lplace p (l.take j)).2 : Int)) :
    ((b.toNat : Int) = 10 → ((lplace p (l.take (j + 1))).1 : Int) = a + 1 ∧ ((lplace p (l.take (j + 1))).2 : Int) = 1) ∧ (¬ (b.toNat : Int) = 10 → ((lplace p (l.take (j + 1))).1 : Int) = a ∧ ((lplace p (l.take (j + 1))).2 : Int) = c + 1) := by
  rw [lplace_next p h]
  constructor
  · intro hb
    have : b = 10 := UInt8.toNat_inj.1 (by simp; omega)
    rw [if_pos this]
    exact ⟨by simp only; omega, by simp⟩
  · intro hb
    have : ¬ b = 10 := by rintro rfl; exact hb rfl
    rw [if_neg this]
    exact ⟨by simp only; omega, by simp only; omega⟩
set_option maxRecDepth 100000 in
theorem behind_any (w : World) (p : Nat × Nat) (l : List UInt8) (hl : l.length < 1000000000) (h1 : p.1 < 1000000000) (h2 : p.2 < 1000000000) :
    Calls Tryz.prog 26 #[.int .i64 (p.1 : Int), .int .i64 (p.2 : Int), .string (str l)] w (Ans (.tuple #[.int .i64 ((lplace p l).1 : Int), .int .i64 ((lplace p l).2 : Int)]) w) := by
  have hz : (str l).size = l.length := strSize l
  have hle := fun j => lplace_le (l.take j) p
  have HLE := Lib.hid hle
  clear hle
  go_enter Tryz.func26, Tryz.ntmps26
  go_wp2_with fail
  go_loopg [11, 0, 1] l.length (fun g i li co wx => ∃ (j : Nat) (a c : Int), j + g = l.length ∧ i = .int .i64 (j : Int) ∧ li = .int .i64 a ∧ co = .int .i64 c ∧ Hid (a = ((lplace p (l.take j)).1 : Int)) ∧ Hid (c = ((lplace p (l.take j)).2 : Int)) ∧ wx = w)
  case atStart => exact ⟨0, p.1, p.2, by omega, rfl, rfl, rfl, Lib.hid rfl, Lib.hid rfl, rfl⟩
  case round =>
    obtain ⟨j, a, c, hj, rfl, rfl, rfl, HA, HC, rfl⟩ := hrel
    have hb1 : 0 ≤ a ∧ a < 2000000002 ∧ 0 ≤ c ∧ c < 2000000002 := by
      have h := HLE.out j
      have h3 := HA.out
      have h4 := HC.out
      rw [List.length_take] at h
      omega
    obtain ⟨ha0, ha1, hc0, hc1⟩ := hb1
    cases gk with
    | zero =>
      obtain rfl : j = l.length := by omega
      have hlt : ¬ ((l.length : Int) < (l.length : Int)) := by omega
      go_wp2_with fail
      go_ret2
      exact ⟨by rw [HA.out, HC.out, List.take_length]; rfl, rfl⟩
    | succ g =>
      have hlt : (j : Int) < (l.length : Int) := by omega
      have hjl : j < l.length := by omega
      have hix := str_index l j hjl
      obtain ⟨b, hb⟩ : ∃ b, l[j] = b := ⟨_, rfl⟩
      rw [hb] at hix
      have HR := Lib.hid (lplace_round p (l := l) (j := j) (b := b) (by rw [List.getElem?_eq_getElem hjl, hb]) a c HA.out HC.out)
      clear hb
      generalize (b.toNat : Int) = B at *
      by_cases h10 : B = 10
      · obtain ⟨R1, R2⟩ := HR.out.1 h10
        have HR1 := Lib.hid R1
        have HR2 := Lib.hid R2
        clear R1 R2
        subst h10
        go_wp2_with fail
        go_roundg g
        case measure => omega
        case rel => exact ⟨j + 1, a + 1, 1, by omega, by go_num, by go_num, rfl, Lib.hid HR1.out.symm, Lib.hid HR2.out.symm, rfl⟩
      · obtain ⟨R1, R2⟩ := HR.out.2 h10
        have HR1 := Lib.hid R1
        have HR2 := Lib.hid R2
        clear R1 R2
        go_wp2_with fail
        go_roundg g
        case measure => omega
        case rel => exact ⟨j + 1, a, c + 1, by omega, by go_num, rfl, by go_num, Lib.hid HR1.out.symm, Lib.hid HR2.out.symm, rfl⟩
set_option maxRecDepth 100000 in
theorem place_any (w : World) (l : List UInt8) (n : Nat) (hl : l.length < 1000000000) (hn : n ≤ l.length) :
    Calls Tryz.prog 35 #[.string (str l), .int .i64 (n : Int)] w (Ans (.tuple #[.int .i64 ((placeAt l n).1 : Int), .int .i64 ((placeAt l n).2 : Int)]) w) := by
  unfold placeAt
  have hz : (str l).size = l.length := strSize l
  have hle := fun j => lplace_le (l.take j) (1, 1)
  have HLE := Lib.hid hle
  clear hle
  go_enter Tryz.func35, Tryz.ntmps35
  go_wp2_with fail
  go_loopg [8, 6, 7] n (fun g i li co wx => ∃ (j : Nat) (a c : Int), j + g = n ∧ i = .int .i64 (j : Int) ∧ li = .int .i64 a ∧ co = .int .i64 c ∧ Hid (a = ((lplace (1, 1) (l.take j)).1 : Int)) ∧ Hid (c = ((lplace (1, 1) (l.take j)).2 : Int)) ∧ wx = w)
  case atStart => exact ⟨0, 1, 1, by omega, rfl, rfl, rfl, Lib.hid rfl, Lib.hid rfl, rfl⟩
  case round =>
    obtain ⟨j, a, c, hj, rfl, rfl, rfl, HA, HC, rfl⟩ := hrel
    have hb1 : 0 ≤ a ∧ a < 2000000002 ∧ 0 ≤ c ∧ c < 2000000002 := by
      have h := HLE.out j
      have h3 := HA.out
      have h4 := HC.out
      rw [List.length_take] at h
      omega
    obtain ⟨ha0, ha1, hc0, hc1⟩ := hb1
    cases gk with
    | zero =>
      obtain rfl : j = n := by omega
      have hlt : ¬ ((j : Int) < (j : Int)) := by omega
      go_wp2_with fail
      go_ret2
      exact ⟨by rw [HA.out, HC.out]; rfl, rfl⟩
    | succ g =>
      have hlt : (j : Int) < (n : Int) := by omega
      have hjl : j < l.length := by omega
      have hix := str_index l j hjl
      obtain ⟨b, hb⟩ : ∃ b, l[j] = b := ⟨_, rfl⟩
      rw [hb] at hix
      have HR := Lib.hid (lplace_round (1, 1) (l := l) (j := j) (b := b) (by rw [List.getElem?_eq_getElem hjl, hb]) a c HA.out HC.out)
      clear hb
      generalize (b.toNat : Int) = B at *
      by_cases h10 : B = 10
      · obtain ⟨R1, R2⟩ := HR.out.1 h10
        have HR1 := Lib.hid R1
        have HR2 := Lib.hid R2
        clear R1 R2
        subst h10
        go_wp2_with fail
        go_roundg g
        case measure => omega
        case rel => exact ⟨j + 1, a + 1, 1, by omega, by go_num, by go_num, rfl, Lib.hid HR1.out.symm, Lib.hid HR2.out.symm, rfl⟩
      · obtain ⟨R1, R2⟩ := HR.out.2 h10
        have HR1 := Lib.hid R1
        have HR2 := Lib.hid R2
        clear R1 R2
        go_wp2_with fail
        go_roundg g
        case measure => omega
        case rel => exact ⟨j + 1, a, c + 1, by omega, by go_num, rfl, by go_num, Lib.hid HR1.out.symm, Lib.hid HR2.out.symm, rfl⟩
end Go.Proofs.YtfcjeciepadmeaaGreatDoor
namespace Go.Proofs.YtfcjeciepadmeaaGreatDoor
open Go.RowKit
def Rk (k : Nat) (w : World) (B : Nat) (p : Option Addr) (rs : List (List Value)) : Prop :=
  0 < rs.length → ∃ b o, p = some ⟨b, o, none⟩ ∧ b < B ∧ ∀ (i : Nat) (r : List Value), rs[i]? = some r → ∀ (j : Nat) (v : Value), r[j]? = some v → w.cell? ⟨b, o + i * k + j, none⟩ = some v
theorem Rk.nil (k : Nat) (w : World) (B : Nat) (p : Option Addr) : Rk k w B p [] := fun h => absurd h (Nat.lt_irrefl 0)
theorem Rk.more {k B B' : Nat} {w : World} {p : Option Addr} {rs : List (List Value)} (h : Rk k w B p rs) (hB : B ≤ B') : Rk k w B' p rs := fun hl => by
  obtain ⟨b, o, e, hb, hc⟩ := h hl
  exact ⟨b, o, e, by omega, hc⟩
theorem Rk.below {k B : Nat} {w w' : World} {p : Option Addr} {rs : List (List Value)} (h : Rk k w B p rs) (hb : Below B w w') : Rk k w' B p rs := fun hl => by
  obtain ⟨b, o, e, hlt, hc⟩ := h hl
  exact ⟨b, o, e, hlt, fun i r hr j v hv => (hb.cell (p := ⟨b, o + i * k + j, none⟩) hlt).trans (hc i r hr j v hv)⟩
theorem rowk_below {w w' : World} {base : Nat} {e : TypeId} {size : Nat} {v : Value} {n : Nat} {xs : List Value} (h : w.ownsRow base e size v n xs) (hb : Below w.heap.size w w') : w'.ownsRow base e size v n xs := by
  obtain ⟨h1, h2⟩ := h
  refine ⟨h1, ?_⟩
  rcases h2 with h2 | ⟨g, cap, cur, hv, hg, hh, hr⟩
  · exact .inl h2
  · exact .inr ⟨g, cap, cur, hv, hg, (hb.block g (Array.getElem?_eq_some_iff.1 hh).1).trans hh, hr⟩
end Go.Proofs.YtfcjeciepadmeaaGreatDoor
namespace Go.Proofs.YtfcjeciepadmeaaGreatDoor
open Go.RowKit
def tokRow (l : List UInt8) (x : Tok × Nat) : List Value := tokCells x.1 (placeAt l x.2).1 (placeAt l x.2).2
abbrev tF : TypeId := 78
def SplitR (w : World) (A : Nat → Addr) (l : List UInt8) (ts : List (Tok × Nat)) (b ea : Nat) (e : Ending) (w' : World) : Prop :=
  Below w.heap.size w w' ∧ ((b = 0 ∧ ∃ v, e = .returned (.tuple #[v, .nilIface]) ∧ w'.ownsRow w.heap.size 45 5 v (ts.map (tokRow l)).length (ts.map (tokRow l)).flatten) ∨
    (b ≠ 0 ∧ ∃ g, e = .returned (.tuple #[.slice none 0 0, .iface tF (.pointer (some ⟨g, 0, none⟩))]) ∧ w.heap.size ≤ g ∧ Blk w' g 80 [.int .i64 ((placeAt l ea).1 : Int), .int .i64 ((placeAt l ea).2 : Int), errOf A b]))
theorem ltoken_k {k : Nat} {p : List UInt8} (h : (ltoken k p).2 = 0) : (ltoken k p).1.k = k := by
  unfold ltoken at h ⊢
  split
  · rename_i h1; exact h1.symm
  rename_i h1
  rw [if_neg h1] at h
  split
  · rename_i h2
    rw [if_pos h2] at h
    split
    · rename_i h3; rw [if_pos h3] at h; cases h
    · exact h2.symm
  rename_i h2
  rw [if_neg h2] at h
  split
  · rename_i h3
    rw [if_pos h3] at h
    split
    · exact h3.symm
    · rename_i h4; rw [if_neg h4] at h; exact absurd h h4
  rename_i h3
  rw [if_neg h3] at h
  split
  · rename_i h4
    rw [if_pos h4] at h
    split
    · rename_i h5; rw [if_pos h5] at h; cases h
    · exact h4.symm
  · rfl
theorem lfirst_k {l : List UInt8} (h0 : 0 < l.length) (h : (lfirst l).2.2 = 0) : (lfirst l).1.k = (lcut l).1 := by
  have := lfirst_size h0 h
  rw [this.2.2.2.2.2, ltoken_k this.2.2.2.2.1]
theorem Lex.step {l : List UInt8} {i : Nat} {ts : List (Tok × Nat)} {b ea : Nat} (h : Lex l i ts b ea) :
    (i = l.length ∧ ts = [] ∧ b = 0) ∨ (i < l.length ∧ (lfirst (l.drop i)).2.2 = b ∧ b ≠ 0 ∧ ts = [] ∧ ea = i) ∨
    (i < l.length ∧ (lfirst (l.drop i)).2.2 = 0 ∧ (lfirst (l.drop i)).1.k = 0 ∧ Lex l (i + (lfirst (l.drop i)).2.1) ts b ea) ∨
    (i < l.length ∧ (lfirst (l.drop i)).2.2 = 0 ∧ (lfirst (l.drop i)).1.k ≠ 0 ∧ ∃ ts', ts = ((lfirst (l.drop i)).1, i) :: ts' ∧ Lex l (i + (lfirst (l.drop i)).2.1) ts' b ea) := by
  cases h with
  | done h => exact .inl ⟨h, rfl, rfl⟩
  | bad h1 h2 => exact .inr (.inl ⟨h1, rfl, h2, rfl, rfl⟩)
  | gap h1 h2 h3 h4 => exact .inr (.inr (.inl ⟨h1, h2, by rw [lfirst_k (by rw [List.length_drop]; omega) h2]; exact h3, h4⟩))
  | tok h1 h2 h3 h4 => exact .inr (.inr (.inr ⟨h1, h2, by rw [lfirst_k (by rw [List.length_drop]; omega) h2]; exact h3, _, rfl, h4⟩))
theorem newCells (w : World) (t : TypeId) (cs : List Value) (g : Nat) (hg : g = w.heap.size) : ∀ (j : Nat) (u : Value), cs[j]? = some u → (w.alloc (.cells cs.toArray t)).cell? ((⟨g, 0, none⟩ : Addr).add j) = some u := fun j u h => by
  subst hg
  have hb := Blk.new w t cs
  rw [Addr.add_lit, Nat.zero_add, hb.cell, h]
theorem Blk.new2 (w : World) (o : Obj) (t : TypeId) (cs : List Value) : Blk ((w.alloc o).alloc (.cells cs.toArray t)) (w.heap.size + 1) t cs := by
  have h := Blk.new (w.alloc o) t cs
  rwa [show (w.alloc o).heap.size = w.heap.size + 1 by simp] at h
theorem tok_one (t : Tok) (a c : Nat) : ∀ u ∈ tokCells t a c, u.oneCell' = true := fun u h => by
  simp only [tokCells, List.mem_cons, List.not_mem_nil, or_false] at h
  rcases h with rfl | rfl | rfl | rfl | rfl <;> rfl
theorem infoTok : (Tryz.prog.info? 45).map (fun i => (i.zero, i.size, i.bytes)) = some (some (.agg #[.int .i64 0, .string .empty, .int .i64 0, .int .i64 0, .int .i64 0]), 5, 48) := by kernel_rfl
set_option maxRecDepth 100000 in
set_option maxHeartbeats 2000000 in
theorem split_any (w : World) (A : Nat → Addr) (m : Int) (hL : Lx w A m) (l : List UInt8) (hl : l.length ≤ 4000) (T : List (Tok × Nat)) (b ea : Nat) (hT : Lex l 0 T b ea) :
    Calls Tryz.prog 11 #[.string (str l)] w (SplitR w A l T b ea) := by
  obtain ⟨i0, hi, hz0, hz1, hz2⟩ := info_parts infoTok
  have hz : (str l).size = l.length := strSize l
  have hlen : ¬ (4000 : Int) < (l.length : Int) := by omega
  have hn := str_toList
  have HT := Lib.hid hT
  clear hT
  go_enter Tryz.func11, Tryz.ntmps11
  go_wp2_with fail
  go_loopg [7, 4, 5, 6] l.length (fun g r v li co wx => ∃ (i : Nat) (out ts : List (Tok × Nat)), i + g = l.length ∧ out.length ≤ i ∧ r = .string (str (l.drop i)) ∧ li = .int .i64 ((placeAt l i).1 : Int) ∧ co = .int .i64 ((placeAt l i).2 : Int) ∧ Hid (T = out ++ ts) ∧ Hid (Lex l i ts b ea) ∧ wx.ownsRow w.heap.size 45 5 v (out.map (tokRow l)).length (out.map (tokRow l)).flatten ∧ Below w.heap.size w wx)
  case atStart => exact ⟨0, [], T, by omega, by simp, rfl, rfl, rfl, Lib.hid rfl, HT, World.ownsRow_nil _ _ _ _, Below.refl _ _⟩
  case round =>
    obtain ⟨i, out, ts, hig, hout, rfl, rfl, rfl, HO, HX, hown, hbr⟩ := hrel
    have hsz := hbr.size
    rcases HX.out.step with ⟨he, hts, hb⟩ | ⟨hlt, hb, hb0, hts, hea⟩ | ⟨hlt, hb, hk, hX⟩ | ⟨hlt, hb, hk, ts', hts, hX⟩
    · subst he
      rw [List.drop_length]
      have hTo : T = out := by rw [HO.out, hts, List.append_nil]
      clear hts
      go_wp2_with fail
      go_ret2
      exact ⟨hbr, .inl ⟨hb, _, rfl, by rw [hTo]; exact hown⟩⟩
    · have HF := Lib.hid (first_any wr A m (hL.below hbr) (l.drop i) (by rw [List.length_drop]; omega) (by rw [List.length_drop]; omega))
      have hemp : (l.drop i).isEmpty = false := by
        cases h : l.drop i with
        | nil => have := congrArg List.length h; rw [List.length_drop] at this; simp at this; omega
        | cons x t => rfl
      unfold FirstR at HF
      rw [hb] at HF
      obtain ⟨c, rfl⟩ : ∃ c, b = c + 1 := ⟨b - 1, by omega⟩
      rw [show errOf A (c + 1) = errV A c from rfl] at HF
      have hne := neq_errV A c
      subst hea
      generalize lfirst (l.drop ea) = F at *
      obtain ⟨t, s, b'⟩ := F
      simp only at HF
      clear hts hb hb0 HX HO
      generalize hD : l.drop ea = D at *
      clear hD
      unfold tokV tokCells at HF
      go_wp2_with fail
      refine HF.out.mono ?_
      rintro e w1 ⟨rfl, hb1⟩
      have hB1 := hbr.trans (hb1.mono hsz)
      have hz1 := hB1.size
      go_wp2_with fail
      go_ret2
      exact ⟨(hB1.alloc hz1 _).alloc (by simp; omega) _, .inr ⟨by omega, w1.heap.size + 1, rfl, by omega, Blk.new2 w1 _ _ _⟩⟩
    · have hO := HO
      have hDl : (l.drop i).length = l.length - i := List.length_drop
      have hs := lfirst_size (l := l.drop i) (by omega) hb
      have HF := Lib.hid (first_any wr A m (hL.below hbr) (l.drop i) (by omega) (by omega))
      have hemp : (l.drop i).isEmpty = false := by
        cases h : l.drop i with
        | nil => rw [h] at hDl; simp at hDl; omega
        | cons x t => rfl
      unfold FirstR at HF
      rw [hb, show errOf A 0 = Value.nilIface from rfl] at HF
      have hs0 := hs.1
      have hs1 := hs.2.1
      have hup := str_upto (l.drop i) (lfirst (l.drop i)).2.1 hs1
      have hfr := str_from (l.drop i) (lfirst (l.drop i)).2.1 hs1
      rw [List.drop_drop] at hfr
      have hpl := placeAt_le l i
      have HP := Lib.hid (fun (u : World) => by
        have h := behind_any u (placeAt l i) ((l.drop i).take (lfirst (l.drop i)).2.1) (by rw [List.length_take]; omega) (by omega) (by omega)
        rw [← placeAt_more] at h
        exact h)
      have HX' := Lib.hid hX
      generalize lfirst (l.drop i) = F at *
      obtain ⟨⟨tk, tt, tn⟩, s, b'⟩ := F
      simp only at HF hk HX' hup hfr HP hs0 hs1 hO
      clear hs hb hX HX HO hpl
      generalize hD : l.drop i = D at *
      clear hD
      unfold tokV tokCells at HF
      have hkz : ((tk : Nat) : Int) = 0 := by omega
      clear hk
      go_wp2_with fail
      refine HF.out.mono ?_
      rintro e w1 ⟨rfl, hb1⟩
      have hown1 := rowk_below hown hb1
      have hB1 := hbr.trans (hb1.mono hsz)
      have hz1 := hB1.size
      go_wp2_with fail
      refine (HP.out _).mono ?_
      rintro e w2 ⟨rfl, rfl⟩
      go_wp2_with fail
      go_roundg (gk - s)
      case measure => omega
      case rel => exact ⟨i + s, out, ts, by omega, by omega, rfl, rfl, rfl, hO, HX', World.ownsRow.alloc hown1 _, hB1.alloc hz1 _⟩
    · have hO := Lib.hid (show T = (out ++ [((lfirst (l.drop i)).1, i)]) ++ ts' by rw [HO.out, hts]; simp)
      have hDl : (l.drop i).length = l.length - i := List.length_drop
      have hs := lfirst_size (l := l.drop i) (by omega) hb
      have HF := Lib.hid (first_any wr A m (hL.below hbr) (l.drop i) (by omega) (by omega))
      have hemp : (l.drop i).isEmpty = false := by
        cases h : l.drop i with
        | nil => rw [h] at hDl; simp at hDl; omega
        | cons x t => rfl
      unfold FirstR at HF
      rw [hb, show errOf A 0 = Value.nilIface from rfl] at HF
      have hs0 := hs.1
      have hs1 := hs.2.1
      have hup := str_upto (l.drop i) (lfirst (l.drop i)).2.1 hs1
      have hfr := str_from (l.drop i) (lfirst (l.drop i)).2.1 hs1
      rw [List.drop_drop] at hfr
      have hpl := placeAt_le l i
      have HP := Lib.hid (fun (u : World) => by
        have h := behind_any u (placeAt l i) ((l.drop i).take (lfirst (l.drop i)).2.1) (by rw [List.length_take]; omega) (by omega) (by omega)
        rw [← placeAt_more] at h
        exact h)
      have HX' := Lib.hid hX
      generalize lfirst (l.drop i) = F at *
      obtain ⟨⟨tk, tt, tn⟩, s, b'⟩ := F
      simp only at HF hk HX' hup hfr HP hs0 hs1 hO
      clear hs hb hX HX HO hpl hts
      generalize hD : l.drop i = D at *
      clear hD
      unfold tokV tokCells at HF
      have hkz : ¬ ((tk : Nat) : Int) = 0 := by omega
      clear hk
      go_wp2_with fail
      refine HF.out.mono ?_
      rintro e w1 ⟨rfl, hb1⟩
      have hown1 := rowk_below hown hb1
      have hB1 := hbr.trans (hb1.mono hsz)
      have hz1 := hB1.size
      go_wp2_with (at_builtin; go_must (refine wpList_append_own_at _ rfl (.tmp 42) (.tmp 44) 41 rfl w.heap.size 45 i0 (.agg #[.int .i64 0, .string .empty, .int .i64 0, .int .i64 0, .int .i64 0]) 5 48 Tryz.underlying41 hi hz0 (by assumption) hz2 rfl (by decide) _ _ _ rfl ((World.ownsRow.alloc hown1 _).alloc _) ⟨w1.heap.size + 1, 0, none⟩ 1 1 (tokCells ⟨tk, tt, tn⟩ (placeAt l i).1 (placeAt l i).2) rfl rfl (newCells _ _ (tokCells ⟨tk, tt, tn⟩ (placeAt l i).1 (placeAt l i).2) _ (by simp)) (tok_one _ _ _) (by rw [List.length_map]; unfold maxLen; omega) (by rw [List.length_map]; omega) (by simp; omega) ?_); intro v3 w3 hown3 hg3 hn3 ha3)
      have hb3 := ((hB1.alloc hz1 _).alloc (by simp; omega) _).grown hg3 (by simp; omega) (fun g h => (hown1.lt g h).1)
      have hown4 : w3.ownsRow w.heap.size 45 5 v3 ((out ++ [((⟨tk, tt, tn⟩ : Tok), i)]).map (tokRow l)).length ((out ++ [((⟨tk, tt, tn⟩ : Tok), i)]).map (tokRow l)).flatten := by
        rw [List.map_append, List.length_append, List.flatten_append, show (List.map (tokRow l) [((⟨tk, tt, tn⟩ : Tok), i)]).flatten = tokCells ⟨tk, tt, tn⟩ (placeAt l i).1 (placeAt l i).2 from by simp [tokRow]]
        exact hown3
      clear hown3 hg3 hn3 ha3
      refine (HP.out _).mono ?_
      rintro e w2 ⟨rfl, rfl⟩
      go_wp2_with fail
      go_roundg (gk - s)
      case measure => omega
      case rel => exact ⟨i + s, out ++ [((⟨tk, tt, tn⟩ : Tok), i)], ts', by omega, by simp; omega, rfl, rfl, rfl, hO, HX', hown4, hb3⟩
set_option maxRecDepth 100000 in
set_option maxHeartbeats 1000000 in
theorem split_long (w : World) (A : Nat → Addr) (m : Int) (hL : Lx w A m) (l : List UInt8) (hl : 4000 < l.length) :
    Calls Tryz.prog 11 #[.string (str l)] w fun e w' => Below w.heap.size w w' ∧ ∃ g, e = .returned (.tuple #[.slice none 0 0, .iface tF (.pointer (some ⟨g, 0, none⟩))]) ∧ w.heap.size ≤ g ∧ Blk w' g 80 [.int .i64 0, .int .i64 0, errV A 2] := by
  have hz : (str l).size = l.length := strSize l
  have hlen : (4000 : Int) < (l.length : Int) := by omega
  have hlong := hL.long
  go_enter Tryz.func11, Tryz.ntmps11
  go_wp2_with fail
  go_region
  all_goals
    go_wp2_with fail
    go_ret2
    exact ⟨below_drewN ((Below.refl _ _).alloc (Nat.le_refl _) _) 1, w.heap.size, rfl, Nat.le_refl _, (Blk.new w _ _).drew⟩
end Go.Proofs.YtfcjeciepadmeaaGreatDoor
namespace Go.Proofs.YtfcjeciepadmeaaGreatDoor
open Go.RowKit
theorem let_not_fig {b : UInt8} (h : lxLet b = true) : lxFig b = false := by
  unfold lxLet at h
  unfold lxFig
  simp only [Bool.or_eq_true, decide_eq_true_eq, beq_iff_eq] at h
  refine decide_eq_false ?_
  rcases h with (h | h) | rfl
  · omega
  · omega
  · decide
theorem lfirst_gap {l : List UInt8} {s : Nat} (h : lcut l = (0, s, 0)) : lfirst l = (⟨0, [], 0⟩, s, 0) := by
  unfold lfirst
  rw [h]
  simp [ltoken]
theorem lcut_blank {l : List UInt8} (h : lxGap (l.headD 0) = true) : lcut l = (0, lspan lxGap l, 0) := by
  unfold lcut; rw [if_pos h]
theorem lcut_line {l : List UInt8} (h : lxGap (l.headD 0) = false) (h2 : l.take 2 = [47, 47]) : lcut l = (0, lspan noLF l, 0) := by
  unfold lcut; rw [if_neg (by rw [h]; simp), if_pos h2]
theorem lcut_remark {l : List UInt8} (h : lxGap (l.headD 0) = false) (h2 : l.take 2 = [47, 42]) : lcut l = (0, lclosed 2 [42, 47] l) := by
  unfold lcut; rw [if_neg (by rw [h]; simp), if_neg (by rw [h2]; decide), if_pos h2]
theorem Lex.gapStep {l : List UInt8} {i : Nat} {ts : List (Tok × Nat)} {b ea s : Nat} (h : Lex l i ts b ea) (hi : i < l.length) (hc : lcut (l.drop i) = (0, s, 0)) : Lex l (i + s) ts b ea := by
  have hf := lfirst_gap hc
  rcases h.step with ⟨h1, _⟩ | ⟨_, h1, h2, _⟩ | ⟨_, _, _, h1⟩ | ⟨_, _, h1, _⟩
  · omega
  · rw [hf] at h1; exact absurd h1.symm h2
  · rw [hf] at h1; exact h1
  · rw [hf] at h1; exact absurd rfl h1
theorem Lex.blank {l : List UInt8} {i : Nat} {ts : List (Tok × Nat)} {b ea : Nat} (h : Lex l i ts b ea) (hi : i < l.length) (hg : lxGap ((l.drop i).headD 0) = true) : Lex l (i + 1) ts b ea := by
  have h1 := h.gapStep hi (lcut_blank hg)
  obtain ⟨x, r, hx⟩ : ∃ x r, l.drop i = x :: r := by
    cases hd : l.drop i with
    | nil => have := congrArg List.length hd; rw [List.length_drop] at this; simp at this; omega
    | cons x r => exact ⟨x, r, rfl⟩
  have hr : l.drop (i + 1) = r := by rw [← List.drop_drop, hx]; rfl
  rw [hx] at h1 hg
  rw [lspan_pos (by simpa using hg)] at h1
  by_cases h0 : lspan lxGap r = 0
  · rw [h0] at h1; exact h1
  · have hr0 : r ≠ [] := by rintro rfl; exact h0 rfl
    have hgr : lxGap ((l.drop (i + 1)).headD 0) = true := by
      rw [hr]
      cases r with
      | nil => exact absurd rfl hr0
      | cons y t =>
        cases hy : lxGap y with
        | true => simpa using hy
        | false => exact absurd (by simp [lspan, hy]) h0
    have hlt : i + 1 < l.length := by
      have := congrArg List.length hr
      rw [List.length_drop] at this
      have := List.length_pos_iff.2 hr0
      omega
    have hc := lcut_blank hgr
    have hf := lfirst_gap hc
    refine Lex.gap hlt (by rw [hf]) (by rw [hc]) ?_
    rw [hf, hr]
    rw [show i + 1 + lspan lxGap r = i + (lspan lxGap r + 1) by omega]
    exact h1
def NoGap (l : List UInt8) : Prop := lxGap (l.headD 0) = false ∧ ¬ l.take 2 = [47, 47] ∧ ¬ l.take 2 = [47, 42]
def SkipR (w : World) (l : List UInt8) (i : Nat) (ts : List (Tok × Nat)) (b ea : Nat) (e : Ending) (w' : World) : Prop :=
  w' = w ∧ ∃ (nx : Nat) (ok : Bool), e = .returned (.tuple #[.int .i64 (nx : Int), .bool ok]) ∧ i ≤ nx ∧ nx ≤ l.length ∧ Lex l nx ts b ea ∧ (ok = false → nx < l.length ∧ (lfirst (l.drop nx)).2.2 = 9) ∧ (ok = true → nx = l.length ∨ nx < l.length ∧ NoGap (l.drop nx))
theorem gap_iff (b : UInt8) : lxGap b = true ↔ ((b.toNat : Int) = 32 ∨ (b.toNat : Int) = 9 ∨ (b.toNat : Int) = 13 ∨ (b.toNat : Int) = 10) := by
  unfold lxGap
  simp only [byte_eq, Bool.or_eq_true, decide_eq_true_eq]
  constructor
  · rintro (((h | h) | h) | h)
    · exact .inl h
    · exact .inr (.inl h)
    · exact .inr (.inr (.inl h))
    · exact .inr (.inr (.inr h))
  · rintro (h | h | h | h)
    · exact .inl (.inl (.inl h))
    · exact .inl (.inl (.inr h))
    · exact .inl (.inr h)
    · exact .inr h
theorem list47 : (ByteArray.mk #[47, 47]).toList = [47, 47] := str_toList [47, 47]
theorem list42 : (ByteArray.mk #[47, 42]).toList = [47, 42] := str_toList [47, 42]
theorem list24 : (ByteArray.mk #[42, 47]).toList = [42, 47] := str_toList [42, 47]
theorem list0 : (ByteArray.mk #[]).toList = [] := str_toList []
set_option maxRecDepth 100000 in
set_option maxHeartbeats 2000000 in
theorem skip_any (w : World) (l : List UInt8) (hl : l.length < 1000000000) (i : Nat) (hi : i ≤ l.length) (ts : List (Tok × Nat)) (b ea : Nat) (hX : Lex l i ts b ea) :
    Calls Tryz.prog 34 #[.string (str l), .int .i64 (i : Int)] w (SkipR w l i ts b ea) := by
  have hz : (str l).size = l.length := strSize l
  have hn := str_toList
  have e47 := list47
  have e42 := list42
  have e24 := list24
  have e0 := list0
  have HX0 := Lib.hid hX
  clear hX
  go_enter Tryz.func34, Tryz.ntmps34
  go_wp2_with fail
  go_loopg [1] (l.length - i) (fun g a wx => ∃ p : Nat, p + g = l.length ∧ i ≤ p ∧ a = .int .i64 (p : Int) ∧ wx = w ∧ Hid (Lex l p ts b ea))
  case atStart => exact ⟨i, by omega, Nat.le_refl _, rfl, rfl, HX0⟩
  case round =>
    clear HX0
    obtain ⟨p, hp, hip, rfl, rfl, HX⟩ := hrel
    cases gk with
    | zero =>
      obtain rfl : p = l.length := by omega
      have hlt : ¬ ((l.length : Int) < (l.length : Int)) := by omega
      go_wp2_with fail
      go_ret2
      exact ⟨rfl, l.length, true, rfl, by omega, Nat.le_refl _, HX.out, fun h => (by cases h), fun _ => .inl rfl⟩
    | succ g =>
      have hlt : (p : Int) < (l.length : Int) := by omega
      have hpl : p < l.length := by omega
      have hix := str_index l p hpl
      obtain ⟨x, hx⟩ : ∃ x, l[p] = x := ⟨_, rfl⟩
      rw [hx] at hix
      have hx' : l[p]? = some x := by rw [List.getElem?_eq_getElem hpl, hx]
      have hhd : (l.drop p).headD 0 = x := by
        rw [List.headD_eq_head?_getD, List.head?_drop, hx']
        rfl
      have HH := Lib.hid hhd
      have HXX := Lib.hid hx'
      have HG := Lib.hid (gap_iff x)
      clear hx hx' hhd
      obtain ⟨B, hB⟩ : ∃ B : Int, B = (x.toNat : Int) := ⟨_, rfl⟩
      rw [← hB] at hix
      have HB := Lib.hid hB
      clear hB
      by_cases hgap : B = 32 ∨ B = 9 ∨ B = 13 ∨ B = 10
      · have HX' := Lib.hid (HX.out.blank hpl (by rw [HH.out]; exact HG.out.2 (HB.out ▸ hgap)))
        rcases hgap with rfl | rfl | rfl | rfl
        all_goals
          go_wp2_with fail
          go_roundg g
          case measure => omega
          case rel => exact ⟨p + 1, by omega, by omega, by go_num, rfl, HX'⟩
      · have hgf : Hid (lxGap ((l.drop p).headD 0) = false) := Lib.hid (by
          rw [HH.out]
          cases h : lxGap x with
          | false => rfl
          | true => exact absurd (HB.out ▸ HG.out.1 h) hgap)
        have n1 : (B == 32) = false := beq_eq_false_iff_ne.2 fun h => hgap (.inl h)
        have n2 : (B == 9) = false := beq_eq_false_iff_ne.2 fun h => hgap (.inr (.inl h))
        have n3 : (B == 13) = false := beq_eq_false_iff_ne.2 fun h => hgap (.inr (.inr (.inl h)))
        have n4 : (B == 10) = false := beq_eq_false_iff_ne.2 fun h => hgap (.inr (.inr (.inr h)))
        clear hgap
        by_cases h2 : p + 1 < l.length
        · have h2' : (p : Int) + 1 < (l.length : Int) := by omega
          obtain ⟨P, hP⟩ : ∃ P, P = (l.drop p).take 2 := ⟨_, rfl⟩
          have hmid : ∀ u, (Instr.slice 9 (.string (str l)) (some (.int .i64 (p : Int))) (some (.int .i64 ((p : Int) + 2))) none).run Tryz.prog u = .ok (.string (str P)) u := fun u => by
            have h := str_mid l p (p + 2) (by omega) (by omega) u
            rw [show p + 2 - p = 2 by omega, ← hP, show ((p + 2 : Nat) : Int) = (p : Int) + 2 by omega] at h
            exact h
          have HP := Lib.hid hP
          clear hP
          by_cases hq : P = [47, 47]
          · subst hq
            have hfirst : 0 < lspan noLF (l.drop p) := lspan_first (by rw [List.length_drop]; omega) (by
              have h := HP.out
              have h0 : (l.drop p)[0]? = some 47 := by
                have := congrArg (fun m => m[0]?) h
                rw [List.getElem?_take_of_lt (by decide)] at this
                exact this.symm
              rw [List.headD_eq_head?_getD, List.head?_eq_getElem?, h0]
              rfl)
            have HS := Lib.hid (fun (s : Nat) (hs : lspan noLF (l.drop p) = s) => HX.out.gapStep hpl (s := s) (by rw [lcut_line hgf.out HP.out.symm, hs]))
            clear HX
            go_wp2_with fail
            go_loopg [1] (l.length - p) (fun g1 a wx => ∃ q j : Nat, q + g1 = l.length ∧ Hid (q = p + j) ∧ a = .int .i64 (q : Int) ∧ wx = wr ∧ Hid (∀ (k : Nat) (c : UInt8), k < j → (l.drop p)[k]? = some c → noLF c = true))
            case atStart => exact ⟨p, 0, by omega, Lib.hid rfl, rfl, rfl, Lib.hid (fun _ _ h => absurd h (Nat.not_lt_zero _))⟩
            case round =>
              obtain ⟨q, j, hqg, HQ, rfl, rfl, HJ⟩ := hrel
              by_cases hql : q < l.length
              · have hqi : (q : Int) < (l.length : Int) := by omega
                have hqx := str_index l q hql
                obtain ⟨c, hc⟩ : ∃ c, l[q] = c := ⟨_, rfl⟩
                rw [hc] at hqx
                have HC := Lib.hid (show (l.drop p)[j]? = some c by rw [List.getElem?_drop, ← HQ.out, List.getElem?_eq_getElem hql, hc])
                have HN := Lib.hid (show noLF c = !(decide ((c.toNat : Int) = 10)) by unfold noLF; rw [bne, byte_eq]; rfl)
                clear hc
                generalize (c.toNat : Int) = C at *
                by_cases h10 : C = 10
                · have HJ' := Lib.hid (HS.out j (lspan_eq (by rw [List.length_drop]; have := HQ.out; omega) HJ.out (fun d hd => by rw [HC.out] at hd; cases hd; rw [HN.out, h10]; rfl)))
                  have hj0 : 0 < j := by
                    rw [lspan_eq (by rw [List.length_drop]; have := HQ.out; omega) HJ.out (fun d hd => by rw [HC.out] at hd; cases hd; rw [HN.out, h10]; rfl)] at hfirst
                    exact hfirst
                  have HPQ := Lib.hid (show p + j = q from HQ.out.symm)
                  have hpq : p < q := by have := HPQ.out; omega
                  subst h10
                  go_wp2_with fail
                  go_roundg (l.length - q)
                  case measure => omega
                  case rel => exact ⟨q, by omega, by omega, rfl, rfl, Lib.hid (HPQ.out ▸ HJ'.out)⟩
                · have HJ' := Lib.hid (show ∀ (k : Nat) (d : UInt8), k < j + 1 → (l.drop p)[k]? = some d → noLF d = true from fun k d hk hd => by
                    by_cases e : k = j
                    · subst e; rw [HC.out] at hd; cases hd; rw [HN.out, decide_eq_false h10]; rfl
                    · exact HJ.out k d (by omega) hd)
                  go_wp2_with fail
                  go_roundg (l.length - (q + 1))
                  case measure => omega
                  case rel => exact ⟨q + 1, j + 1, by omega, Lib.hid (by rw [HQ.out]; omega), by go_num, rfl, HJ'⟩
              · have hqi : ¬ (q : Int) < (l.length : Int) := by omega
                have hsp : lspan noLF (l.drop p) = j := lspan_eq (by rw [List.length_drop]; have := HQ.out; omega) HJ.out (fun d hd => by
                  have h1 := (List.getElem?_eq_some_iff.1 hd).1
                  rw [List.length_drop] at h1
                  have := HQ.out
                  omega)
                have HJ' := Lib.hid (HS.out j hsp)
                have hj0 : 0 < j := by rw [hsp] at hfirst; exact hfirst
                have HPQ := Lib.hid (show p + j = q from HQ.out.symm)
                have hpq : p < q := by have := HPQ.out; omega
                clear hsp
                go_wp2_with fail
                go_roundg (l.length - q)
                case measure => omega
                case rel => exact ⟨q, by omega, by omega, rfl, rfl, Lib.hid (HPQ.out ▸ HJ'.out)⟩
          have hq1 : (P == [47, 47]) = false := by simpa using hq
          by_cases hr : P = [47, 42]
          · subst hr
            have HS := Lib.hid (fun (s : Nat) (hs : lclosed 2 [42, 47] (l.drop p) = (s, 0)) => HX.out.gapStep hpl (s := s) (by rw [lcut_remark hgf.out HP.out.symm, hs]))
            have HBAD := Lib.hid (fun (hs : lclosed 2 [42, 47] (l.drop p) = (0, 9)) => show (lfirst (l.drop p)).2.2 = 9 by
              unfold lfirst
              rw [lcut_remark hgf.out HP.out.symm, hs]
              rfl)
            clear hq hq1
            go_wp2_with fail
            go_loopg [8] (l.length - (p + 2)) (fun g1 a wx => ∃ q j : Nat, q + g1 = l.length ∧ Hid (q = p + 2 + j) ∧ a = .int .i64 (q : Int) ∧ wx = wr ∧ Hid (Lib.NoOcc ((l.drop p).drop 2) [42, 47] j))
            case atStart => exact ⟨p + 2, 0, by omega, Lib.hid rfl, by go_num, rfl, Lib.hid (Lib.NoOcc.zero _ _)⟩
            case round =>
              obtain ⟨q, j, hqg, HQ, rfl, rfl, HJ⟩ := hrel
              have hdl : ((l.drop p).drop 2).length = l.length - p - 2 := by rw [List.length_drop, List.length_drop]
              have hjq : p + 2 + j = q := HQ.out.symm
              have HJQ := Lib.hid hjq
              have hpq : p < q := by omega
              clear hjq
              by_cases hql : q + 1 < l.length
              · have hqi : (q : Int) + 1 < (l.length : Int) := by omega
                obtain ⟨P2, hP2⟩ : ∃ P2, P2 = (l.drop q).take 2 := ⟨_, rfl⟩
                have hmid2 : ∀ u, (Instr.slice 9 (.string (str l)) (some (.int .i64 (q : Int))) (some (.int .i64 ((q : Int) + 2))) none).run Tryz.prog u = .ok (.string (str P2)) u := fun u => by
                  have h := str_mid l q (q + 2) (by omega) (by omega) u
                  rw [show q + 2 - q = 2 by omega, ← hP2, show ((q + 2 : Nat) : Int) = (q : Int) + 2 by omega] at h
                  exact h
                have hocc : Lib.occAt ((l.drop p).drop 2) [42, 47] j = (P2 == [42, 47]) := by
                  rw [Lib.occAt_iff_take _ _ _ (by rw [hdl]; have := HJQ.out; simp only [List.length_cons, List.length_nil]; omega), List.drop_drop, List.drop_drop, show p + (2 + j) = q by have := HJQ.out; omega, hP2]
                  rfl
                clear hP2
                by_cases h24 : P2 = [42, 47]
                · subst h24
                  have hidx : Lib.index ((l.drop p).drop 2) [42, 47] = (j : Int) := Lib.index_hit HJ.out (by rw [hdl]; have := HJQ.out; omega) (by rw [hocc]; rfl)
                  have HJ' := Lib.hid (HS.out (2 + j + 2) (by
                    unfold lclosed
                    rw [hidx, if_neg (by omega), Int.toNat_natCast]
                    rfl))
                  clear hocc hidx
                  go_wp2_with fail
                  go_roundg (l.length - (q + 2))
                  case measure => omega
                  case rel => exact ⟨q + 2, by omega, by omega, by go_num, rfl, Lib.hid (by have h := HJ'.out; rw [show p + (2 + j + 2) = q + 2 by have := HJQ.out; omega] at h; exact h)⟩
                · have hb24 : (P2 == [42, 47]) = false := by simpa using h24
                  have hn24 : (P2 != [42, 47]) = true := by simpa using h24
                  have HJ' := Lib.hid (HJ.out.succ (by rw [hocc]; exact hb24))
                  clear hocc h24
                  go_wp2_with fail
                  go_roundg (l.length - (q + 1))
                  case measure => omega
                  case rel => exact ⟨q + 1, j + 1, by omega, Lib.hid (by rw [HQ.out]; omega), by go_num, rfl, HJ'⟩
              · have hqi : ¬ (q : Int) + 1 < (l.length : Int) := by omega
                have hge : (l.length : Int) ≤ (q : Int) + 1 := by omega
                have HBB := Lib.hid (HBAD.out (by
                  unfold lclosed
                  rw [Lib.index_past (by simp) HJ.out (by rw [hdl]; have := HJQ.out; simp only [List.length_cons, List.length_nil]; omega), if_pos (by decide)]))
                go_wp2_with fail
                go_ret2
                exact ⟨rfl, p, false, rfl, hip, by omega, HX.out, fun _ => ⟨hpl, HBB.out⟩, fun h => (by cases h)⟩
          have hr1 : (P == [47, 42]) = false := by simpa using hr
          go_wp2_with fail
          go_ret2
          exact ⟨rfl, p, true, rfl, hip, by omega, HX.out, fun h => (by cases h), fun _ => .inr ⟨hpl, hgf.out, by rw [← HP.out]; exact hq, by rw [← HP.out]; exact hr⟩⟩
        · have h2' : ¬ (p : Int) + 1 < (l.length : Int) := by omega
          have hlen : ∀ a c : UInt8, ¬ (l.drop p).take 2 = [a, c] := fun a c h => by
            have h := congrArg List.length h
            rw [List.length_take, List.length_drop] at h
            simp only [List.length_cons, List.length_nil] at h
            omega
          go_wp2_with fail
          go_ret2
          exact ⟨rfl, p, true, rfl, hip, by omega, HX.out, fun h => (by cases h), fun _ => .inr ⟨hpl, hgf.out, hlen _ _, hlen _ _⟩⟩
end Go.Proofs.YtfcjeciepadmeaaGreatDoor
namespace Go.Proofs.YtfcjeciepadmeaaGreatDoor
open Go.RowKit
def RefSplitR (w : World) (l : List UInt8) (ts : List (Tok × Nat)) (b ea : Nat) (e : Ending) (w' : World) : Prop :=
  Below w.heap.size w w' ∧ ((b = 0 ∧ ∃ v, e = .returned (.tuple #[v, .int .i64 0, .int .i64 0, .int .i64 0]) ∧ w'.ownsRow w.heap.size 97 5 v (ts.map (tokRow l)).length (ts.map (tokRow l)).flatten) ∨
    (b ≠ 0 ∧ e = .returned (.tuple #[.slice none 0 0, .int .i64 (b : Int), .int .i64 ((placeAt l ea).1 : Int), .int .i64 ((placeAt l ea).2 : Int)])))
theorem infoRTok : (Tryz.prog.info? 97).map (fun i => (i.zero, i.size, i.bytes)) = some (some (.agg #[.int .i64 0, .string .empty, .int .i64 0, .int .i64 0, .int .i64 0]), 5, 48) := by kernel_rfl
set_option maxRecDepth 100000 in
theorem refSplit_long (w : World) (l : List UInt8) (hl : 4000 < l.length) :
    Calls Tryz.prog 17 #[.string (str l)] w fun e w' => e = .returned (.tuple #[.slice none 0 0, .int .i64 3, .int .i64 0, .int .i64 0]) ∧ Below w.heap.size w w' := by
  have hz : (str l).size = l.length := strSize l
  have hlen : (4000 : Int) < (l.length : Int) := by omega
  go_enter Tryz.func17, Tryz.ntmps17
  go_wp2_with fail
  refine bodyPost_ret (results_tmp4 rfl _ _ _) rfl ⟨rfl, Below.refl _ _⟩
end Go.Proofs.YtfcjeciepadmeaaGreatDoor
