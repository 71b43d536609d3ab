/- Which bytes come first: the contracts of redlineref01.Compare, bytes.Compare and octets.Compare. No condition. -/
import Derived.Test.YtpimoipjomikiaaDoorProg
import Derived.Test.YtpimoipjomikiaaDoorMem
import Derived.Test.YtpimoipjomikiaaDoorStr
import Derived.Laws.Externs
import Derived.Deep.QuietTactic
import Derived.BigQuiet
namespace Go.Proofs.YtpimoipjomikiaaDoor
open Go.RowKit

/-- Byte by byte; a beginning of the other one comes first. -/
def cmp : List UInt8 → List UInt8 → Int
  | [], [] => 0
  | [], _ :: _ => -1
  | _ :: _, [] => 1
  | x :: xs, y :: ys => if x.toNat < y.toNat then -1 else if y.toNat < x.toNat then 1 else cmp xs ys
theorem cmp_nil_left (m : List UInt8) : cmp [] m = if 0 < m.length then -1 else 0 := by cases m <;> simp [cmp]
theorem cmp_swap : ∀ a b : List UInt8, cmp b a = - cmp a b
  | [], [] => rfl
  | [], _ :: _ => rfl
  | _ :: _, [] => rfl
  | x :: xs, y :: ys => by
    unfold cmp
    have := cmp_swap xs ys
    split <;> split <;> (try split) <;> omega
theorem cmp_zero : ∀ a b : List UInt8, cmp a b = 0 ↔ a = b
  | [], [] => by simp [cmp]
  | [], _ :: _ => by simp [cmp]
  | _ :: _, [] => by simp [cmp]
  | x :: xs, y :: ys => by
    unfold cmp
    have := cmp_zero xs ys
    split
    · simp; rintro rfl; omega
    · split
      · simp; rintro rfl; omega
      · have e : x = y := UInt8.toNat_inj.1 (by omega)
        rw [this, List.cons.injEq]
        simp [e]
theorem cmp_range (a b : List UInt8) : cmp a b = -1 ∨ cmp a b = 0 ∨ cmp a b = 1 := by
  fun_induction cmp a b <;> simp_all
theorem cmp_drop {a b : List UInt8} {k : Nat} (ha : k < a.length) (hb : k < b.length) :
    cmp (a.drop k) (b.drop k) = if a[k].toNat < b[k].toNat then -1 else if b[k].toNat < a[k].toNat then 1 else cmp (a.drop (k + 1)) (b.drop (k + 1)) := by
  rw [List.drop_eq_getElem_cons ha, List.drop_eq_getElem_cons hb]
  rfl

theorem str_get (l : List UInt8) (i : Nat) : (str l)[i]! = (l[i]?).getD default := by
  by_cases h : i < l.length
  · have h' : i < (str l).size := by simpa [str, ByteArray.size] using h
    rw [getElem!_pos (str l) i h', List.getElem?_eq_getElem h]
    rfl
  · have h' : ¬ i < (str l).size := by simpa [str, ByteArray.size] using h
    rw [getElem!_neg (str l) i h', List.getElem?_eq_none (by omega)]
    rfl
theorem str_size (l : List UInt8) : (str l).size = l.length := by simp [str, ByteArray.size]

def first (l m : List UInt8) : Option Nat := (List.range (min l.length m.length)).find? fun i => (l[i]?).getD default != (m[i]?).getD default
theorem first_cons (x y : UInt8) (l m : List UInt8) : first (x :: l) (y :: m) = if x = y then (first l m).map (· + 1) else some 0 := by
  unfold first
  have e : min (x :: l).length (y :: m).length = min l.length m.length + 1 := by simp [Nat.add_min_add_right]
  rw [e, List.range_succ_eq_map, List.find?_cons]
  by_cases h : x = y
  · subst h
    simp [List.find?_map, Function.comp_def]
  · have hb : (x != y) = true := by simpa using h
    simp [hb, h]
theorem ext_cmp (l m : List UInt8) : Extern.BytealgCompare.cmp (str l) (str m) = cmp l m := by
  unfold Extern.BytealgCompare.cmp
  simp only [str_get, str_size]
  show (match first l m with | some i => if (l[i]?).getD default < (m[i]?).getD default then (-1 : Int) else 1 | none => if l.length < m.length then -1 else if m.length < l.length then 1 else 0) = _
  induction l generalizing m with
  | nil => cases m <;> simp [first, cmp]
  | cons x l ih =>
    cases m with
    | nil => simp [first, cmp]
    | cons y m =>
      rw [first_cons]
      unfold cmp
      by_cases h : x = y
      · subst h
        simp only [if_true, Nat.lt_irrefl, if_false]
        rw [← ih m]
        cases first l m <;> simp
      · have hne : x.toNat ≠ y.toNat := fun e => h (UInt8.toNat_inj.1 e)
        simp only [h, if_false]
        simp only [List.getElem?_cons_zero, Option.getD_some, UInt8.lt_iff_toNat_lt]
        split
        · rfl
        · rw [if_pos (by omega)]

theorem run_loadBytes {P : Program} {w : World} (b : Nat) : ∀ (l : List UInt8) (o : Nat) (acc : ByteArray), (∀ (i : Nat) (x : UInt8), l[i]? = some x → w.cell? ⟨b, o + i, none⟩ = some (bv x)) →
    (Extern.Bytes.loadBytes ⟨b, o, none⟩ l.length acc).run P w = .ok ⟨acc.data ++ l.toArray⟩ w
  | [], _, acc, _ => by simp [Extern.Bytes.loadBytes, Sem.run_pure]
  | x :: l, o, acc, h => by
    have h0 : w.cell? ⟨b, o, none⟩ = some (.int .u8 (x.toNat : Int)) := h 0 x rfl
    have ih := run_loadBytes (P := P) (w := w) b l (o + 1) (acc.push x) fun i y hy => by
      rw [show o + 1 + i = o + (i + 1) by omega]; exact h (i + 1) y (by simpa using hy)
    have e : (⟨b, o, none⟩ : Addr).add 1 = ⟨b, o + 1, none⟩ := rfl
    simp only [List.length_cons, Extern.Bytes.loadBytes]
    have hl : (load ⟨b, o, none⟩).run P w = .ok (.int .u8 (x.toNat : Int)) w := by simp [go_sem, h0]
    rw [Sem.run_bind, hl]
    simp only [Result.andThen, e]
    have e2 : (x.toNat : Int).toNat.toUInt8 = x := by simp
    rw [e2, ih]
    simp [ByteArray.push]
theorem Sl.bytesOf {P : Program} {w : World} {B : Nat} {p : Option Addr} {l : List UInt8} (h : Sl w B p l) (c : Nat) : (Extern.Bytes.bytesOf (.slice p l.length c)).run P w = .ok (str l) w := by
  rcases p with _ | a
  · have hl : l = [] := by
      rcases Nat.eq_zero_or_pos l.length with h0 | h0
      · exact List.eq_nil_of_length_eq_zero h0
      · obtain ⟨b, o, e, _⟩ := h h0
        cases e
    subst hl
    rfl
  · rcases Nat.eq_zero_or_pos l.length with h0 | h0
    · obtain rfl := List.eq_nil_of_length_eq_zero h0
      rfl
    · obtain ⟨b, o, e, _, hc⟩ := h h0
      cases e
      show (Extern.Bytes.loadBytes ⟨b, o, none⟩ l.length .empty).run P w = _
      rw [run_loadBytes b l o .empty hc]
      congr 1
      show ByteArray.mk (#[] ++ l.toArray) = str l
      simp [str]

theorem bytealgCompare_run {w : World} {B : Nat} {p q : Option Addr} {l m : List UInt8} (h1 : Sl w B p l) (h2 : Sl w B q m) (c d : Nat) :
    (callFunc 38 #[.slice p l.length c, .slice q m.length d]).run Tryd.prog w = .ok (.value (.int .i64 (cmp l m))) w := by
  rw [run_callFunc_extern (e := Extern.BytealgCompare.compare) Tryd.func38 (by kernel_rfl) (by kernel_rfl) (by rfl) (by rfl)]
  have h : (Extern.BytealgCompare.compare #[.slice p l.length c, .slice q m.length d]).run Tryd.prog w = .ok (.int .i64 (cmp l m)) w := by
    change Sem.run _ (do pure (goInt (Extern.BytealgCompare.cmp (← Extern.Bytes.bytesOf (.slice p l.length c)) (← Extern.Bytes.bytesOf (.slice q m.length d))))) w = _
    simp only [Sem.run_bind, h1.bytesOf c, h2.bytesOf d, Result.andThen, Sem.run_pure, ext_cmp]
    rfl
  rw [h]
  rfl

theorem bytesCompare_any (w : World) (p q : Option Addr) (l m : List UInt8) (c d B : Nat) (h1 : Sl w B p l) (h2 : Sl w B q m) :
    Calls Tryd.prog 33 #[.slice p l.length c, .slice q m.length d] w fun e w' => e = .returned (.int .i64 (cmp l m)) ∧ w = w' := by
  have hc := bytealgCompare_run h1 h2 c d
  go_enter Tryd.func33, Tryd.ntmps33
  go_wp2
  go_ret
  exact ⟨rfl, rfl⟩
theorem compare_any (w : World) (p q : Option Addr) (l m : List UInt8) (c d B : Nat) (h1 : Sl w B p l) (h2 : Sl w B q m) :
    Calls Tryd.prog 25 #[.slice p l.length c, .slice q m.length d] w fun e w' => e = .returned (.int .i64 (cmp l m)) ∧ w = w' := by
  go_enter Tryd.func25, Tryd.ntmps25
  go_wp2_with fail
  refine (bytesCompare_any w p q l m c d B h1 h2).mono ?_
  rintro e w' ⟨rfl, rfl⟩
  go_wp2_with fail
  go_ret
  exact ⟨rfl, rfl⟩

set_option maxHeartbeats 1000000 in
theorem refCompare_any (w : World) (p q : Option Addr) (l m : List UInt8) (c d B : Nat) (hl : l.length ≤ 140737488355328) (h1 : Sl w B p l) (h2 : Sl w B q m) :
    Calls Tryd.prog 24 #[.slice p l.length c, .slice q m.length d] w fun e w' => e = .returned (.int .i64 (cmp l m)) ∧ ∃ n, w' = w.drewN n := by
  go_enter Tryd.func24, Tryd.ntmps24
  go_wp2_with fail
  go_loopw [5] (fun i wr => ∃ k : Nat, k ≤ l.length ∧ k ≤ m.length ∧ i = .int .i64 k ∧ Hid (cmp (l.drop k) (m.drop k) = cmp l m) ∧ ∃ n, wr = w.drewN n) (fun i _ => l.length - (intOf i).toNat)
  case atStart => exact ⟨0, by omega, by omega, rfl, Lib.hid rfl, 0, rfl⟩
  case round =>
    obtain ⟨k, hk, hk2, rfl, HC, n, rfl⟩ := hrel
    have h63 : k < 9223372036854775807 := by omega
    by_cases hl1 : k < l.length
    · by_cases hm1 : k < m.length
      · obtain ⟨b1, o1, rfl, _, hc1⟩ := h1.at_ hl1
        obtain ⟨b2, o2, rfl, _, hc2⟩ := h2.at_ hm1
        have hd := cmp_drop hl1 hm1
        rw [HC.out] at hd
        by_cases hlt : l[k].toNat < m[k].toNat
        · rw [if_pos hlt] at hd
          have HD := Lib.hid hd
          clear hd
          go_wp2_with fail
          go_quiet (fail)
          go_wp2_with fail
          go_ret
          exact ⟨by rw [HD.out]; rfl, by first | exact ⟨_, rfl⟩ | (simp only [World.drewN_drewN]; exact ⟨_, rfl⟩)⟩
        · rw [if_neg hlt] at hd
          by_cases hgt : m[k].toNat < l[k].toNat
          · rw [if_pos hgt] at hd
            have HD := Lib.hid hd
            clear hd
            go_wp2_with fail
            go_quiet (fail)
            go_wp2_with fail
            go_quiet (fail)
            go_wp2_with fail
            go_ret
            exact ⟨by rw [HD.out]; rfl, by first | exact ⟨_, rfl⟩ | (simp only [World.drewN_drewN]; exact ⟨_, rfl⟩)⟩
          · rw [if_neg hgt] at hd
            have HD := Lib.hid hd.symm
            clear hd
            go_wp2_with fail
            go_quiet (fail)
            go_wp2_with fail
            go_quiet (fail)
            go_wp2_with fail
            go_roundw
            case rel => exact ⟨k + 1, by omega, by omega, by go_num, HD, _, rfl⟩
            case measure => simp [intOf]; omega
      · obtain rfl : k = m.length := by omega
        have hc : cmp l m = 1 := by
          rw [← HC.out, List.drop_length]
          obtain ⟨y, ys, e⟩ : ∃ y ys, l.drop m.length = y :: ys := ⟨_, _, List.drop_eq_getElem_cons hl1⟩
          rw [e]; rfl
        have HD := Lib.hid hc
        clear hc
        go_wp2_with fail
        go_ret
        exact ⟨by rw [HD.out]; rfl, by first | exact ⟨_, rfl⟩ | (simp only [World.drewN_drewN]; exact ⟨_, rfl⟩)⟩
    · obtain rfl : k = l.length := by omega
      have hc : cmp l m = if l.length < m.length then -1 else 0 := by
        rw [← HC.out, List.drop_length, cmp_nil_left, List.length_drop]
        split <;> split <;> omega
      by_cases hlm : l.length < m.length
      · rw [if_pos hlm] at hc
        have HD := Lib.hid hc
        clear hc
        go_wp2_with fail
        go_ret
        exact ⟨by rw [HD.out]; rfl, by first | exact ⟨_, rfl⟩ | (simp only [World.drewN_drewN]; exact ⟨_, rfl⟩)⟩
      · rw [if_neg hlm] at hc
        have HD := Lib.hid hc
        clear hc
        go_wp2_with fail
        go_ret
        exact ⟨by rw [HD.out]; rfl, by first | exact ⟨_, rfl⟩ | (simp only [World.drewN_drewN]; exact ⟨_, rfl⟩)⟩
end Go.Proofs.YtpimoipjomikiaaDoor
