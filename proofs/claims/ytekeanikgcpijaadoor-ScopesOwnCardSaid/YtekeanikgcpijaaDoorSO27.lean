/- Part 27 of what the last text of this claim is proved by: walks over the program, and the math behind them. Conditions: as each theorem says. -/
import Derived.Test.YtekeanikgcpijaaDoorSO26
import Derived.Test.YtekeanikgcpijaaDoorProg
import Derived.Laws.RangeString
import Derived.Laws.Runes
import Derived.Deep.LoopGhost
import Derived.Lib.IndexAny
import Derived.Deep.QuietTactic
import Derived.BigQuiet
import Derived.WalkMore
import Derived.Deep.RegionHeld3
namespace Go.Proofs.YtekeanikgcpijaaDoor
open Go.RowKit
set_option maxRecDepth 100000 in
theorem decode_big (s : ByteArray) (i : Nat) (hi : i < s.size) (hb : 128 ≤ (s.get! i).toNat) :
    128 ≤ (Utf8.decode s i).1 ∧ Utf8.valid ((Utf8.decode s i).1 : Int) = true ∧ 1 ≤ (Utf8.decode s i).2 ∧ i + (Utf8.decode s i).2 ≤ s.size ∧ ∀ k, k < (Utf8.decode s i).2 → 128 ≤ (s.get! (i + k)).toNat := by
  have hone : (∀ k, k < 1 → 128 ≤ (s.get! (i + k)).toNat) := fun k hk => by
    obtain rfl : k = 0 := by omega
    exact hb
  have bad : 128 ≤ Utf8.runeError ∧ Utf8.valid (Utf8.runeError : Int) = true ∧ 1 ≤ 1 ∧ i + 1 ≤ s.size ∧ ∀ k, k < 1 → 128 ≤ (s.get! (i + k)).toNat := ⟨by decide, by decide, by omega, by omega, hone⟩
  have lt : ∀ k, (s.get! (i + k)).toNat < 256 := fun k => UInt8.toNat_lt _
  have l0 := lt 0; have l1 := lt 1; have l2 := lt 2; have l3 := lt 3
  have hb0 : 128 ≤ (s.get! (i + 0)).toNat := hb
  unfold Utf8.decode
  dsimp only
  rw [if_neg (show ¬ (s.get! (i + 0)).toNat < 128 by omega)]
  have val : ∀ c : Nat, Utf8.valid (c : Int) = true ↔ (c < 55296 ∨ 57344 ≤ c ∧ c ≤ 1114111) := fun c => by
    unfold Utf8.valid
    simp only [Bool.or_eq_true, Bool.and_eq_true, decide_eq_true_eq]
    omega
  split
  · rename_i h
    simp only [Bool.and_eq_true, decide_eq_true_eq, beq_iff_eq] at h
    split
    · rename_i hc
      refine ⟨hc, (val _).2 (by simp only; omega), by simp, by simp only; omega, fun k hk => ?_⟩
      simp only at hk
      match k, hk with
      | 0, _ => exact hb
      | 1, _ => omega
    · exact bad
  split
  · rename_i h
    simp only [Bool.and_eq_true, decide_eq_true_eq, beq_iff_eq] at h
    split
    · rename_i hc
      simp only [Bool.and_eq_true, decide_eq_true_eq, ge_iff_le] at hc
      refine ⟨by simp only; omega, hc.2, by simp, by simp only; omega, fun k hk => ?_⟩
      simp only at hk
      match k, hk with
      | 0, _ => exact hb
      | 1, _ => omega
      | 2, _ => omega
    · exact bad
  split
  · rename_i h
    simp only [Bool.and_eq_true, decide_eq_true_eq, beq_iff_eq] at h
    split
    · rename_i hc
      simp only [Bool.and_eq_true, decide_eq_true_eq, ge_iff_le] at hc
      refine ⟨by simp only; omega, hc.2, by simp, by simp only; omega, fun k hk => ?_⟩
      simp only at hk
      match k, hk with
      | 0, _ => exact hb
      | 1, _ => omega
      | 2, _ => omega
      | 3, _ => omega
    · exact bad
  · exact bad
theorem run_next_at {P : Program} (w : World) (g : Nat) (s : ByteArray) (pos : Nat) (ty : TypeId) (h : w.heap[g]? = some (.stringIter s pos)) (hp : pos < s.size) :
    ∃ w', (Instr.next (.pointer (some ⟨g, 0, none⟩)) true ty).run P w = .ok (.tuple #[.bool true, .int .i64 pos, .int .i32 (Utf8.decode s pos).1]) w' ∧ w'.heap[g]? = some (.stringIter s (pos + (Utf8.decode s pos).2)) ∧ ∀ B, B ≤ g → Below B w w' := by
  have hg : g < w.heap.size := by
    rcases Nat.lt_or_ge g w.heap.size with hlt | hge
    · exact hlt
    · rw [Array.getElem?_eq_none hge] at h; cases h
  refine ⟨{ w with heap := w.heap.setIfInBounds g (.stringIter s (pos + (Utf8.decode s pos).2)) }, ?_, ?_, fun B hB => ?_⟩
  · simp only [Instr.next, getObj, setObj, Sem.run_bind, Sem.run, h, Result.andThen, hp, if_true]
    simp [goInt]
  · simp [hg]
  · refine ⟨rfl, rfl, rfl, by simp, fun j hj => ?_⟩
    show (w.heap.setIfInBounds g _)[j]? = _
    rw [Array.getElem?_setIfInBounds_ne (by omega)]
theorem run_next_stop {P : Program} (w : World) (g : Nat) (s : ByteArray) (pos : Nat) (ty : TypeId) (h : w.heap[g]? = some (.stringIter s pos)) (hp : ¬ pos < s.size) :
    (Instr.next (.pointer (some ⟨g, 0, none⟩)) true ty).run P w = .ok (.tuple #[.bool false]) w := by
  simp [Instr.next, getObj, Sem.run, h, hp]
set_option maxRecDepth 100000 in
theorem idxRune_err (w : World) : Calls Tryd.prog 72 #[.string (str [92, 10]), .int .i32 65533] w fun e w' => e = .returned (.int .i64 (-1)) ∧ Below w.heap.size w w' := by
  have n0 : ∀ ty, (Instr.next (.pointer (some ⟨w.heap.size, 0, none⟩)) true ty).run Tryd.prog (w.iter (str [92, 10]) 0) = .ok (.tuple #[.bool true, .int .i64 0, .int .i32 92]) (w.iter (str [92, 10]) 1) := fun ty => run_next_ascii w (str [92, 10]) 0 ty (by decide) (by decide)
  have n1 : ∀ ty, (Instr.next (.pointer (some ⟨w.heap.size, 0, none⟩)) true ty).run Tryd.prog (w.iter (str [92, 10]) 1) = .ok (.tuple #[.bool true, .int .i64 1, .int .i32 10]) (w.iter (str [92, 10]) 2) := fun ty => run_next_ascii w (str [92, 10]) 1 ty (by decide) (by decide)
  have n2 : ∀ ty, (Instr.next (.pointer (some ⟨w.heap.size, 0, none⟩)) true ty).run Tryd.prog (w.iter (str [92, 10]) 2) = .ok (.tuple #[.bool false]) (w.iter (str [92, 10]) 2) := fun ty => run_next_end w (str [92, 10]) 2 ty (by decide)
  go_enter Tryd.func72, Tryd.ntmps72
  go_wp2_with fail
  refine wp_loop_rounds 3 ?_
  rw [rounds_succ]
  go_wp2
  rw [rounds_succ]
  go_wp2
  rw [rounds_succ]
  go_wp2
  go_ret
  exact ⟨rfl, (Below.refl _ _).alloc (Nat.le_refl _) _⟩
theorem two_of (R : ByteArray) (h : R.size = 2) : ∃ a b, R = str [a, b] ∧ R[R.size - 1]'(by omega) = b := by
  obtain ⟨⟨l⟩⟩ := R
  match l, h with
  | [a, b], _ => exact ⟨a, b, rfl, rfl⟩
set_option maxRecDepth 100000 in
theorem idxRune_big (w : World) (c : Int) (h : 128 ≤ c) (hv : Utf8.valid c = true) (hne : ¬ c = 65533) : Calls Tryd.prog 72 #[.string (str [92, 10]), .int .i32 c] w fun e w' => e = .returned (.int .i64 (-1)) ∧ Below w.heap.size w w' := by
  have hlt : ¬ c < 128 := by omega
  have hval : Lib.validRune c = true := by
    unfold Utf8.valid at hv
    unfold Lib.validRune
    simp only [Bool.or_eq_true, Bool.and_eq_true, decide_eq_true_eq] at hv ⊢
    omega
  obtain ⟨h2, h4, hlast⟩ := encode_facts c hv h
  have HV := Lib.hid (Tryd.utf8_ValidRune c w)
  rw [hval] at HV
  have hcv : ∀ u, (convert 21 9 (.int .i32 c)).run Tryd.prog u = .ok (.string (Utf8.encode c)) u := fun u => run_convert_int_string u _ _ .i32 c (by kernel_rfl) Tryd.underlying9
  clear hval hv
  generalize Utf8.encode c = R at *
  have hz : (str [92, 10]).size = 2 := rfl
  by_cases hR : R.size = 2
  · obtain ⟨a, b, rfl, hb⟩ := two_of R hR
    have hb' := hlast (by omega)
    rw [hb] at hb'
    clear hb hlast h2 h4
    have i1 : ∀ u, (Instr.index 9 (.string (str [92, 10])) (.int .i64 1)).run Tryd.prog u = .ok (.int .u8 10) u := str_index [92, 10] 1 (by decide)
    have i2 : ∀ u, (Instr.index 9 (.string (str [a, b])) (.int .i64 1)).run Tryd.prog u = .ok (.int .u8 (b.toNat : Int)) u := str_index [a, b] 1 (by simp)
    have i3 : ∀ u, (Instr.slice 9 (.string (str [92, 10])) (some (.int .i64 2)) none none).run Tryd.prog u = .ok (.string (str [])) u := str_from [92, 10] 2 (by decide)
    have hIB : ∀ (x : Int) u, Calls Tryd.prog 46 #[.string (str []), .int .u8 x] u fun e w' => e = .returned (.int .i64 (-1)) ∧ w' = u := fun x u => Tryd.strings_IndexByte (str []) x u
    have HIB := Lib.hid hIB
    clear hIB
    have hwr : IntKind.i64.wrap 2 = 2 := by decide
    have hbn : ((10 : Int) != (b.toNat : Int)) = true := bne_iff_ne.2 (by omega)
    generalize (b.toNat : Int) = B at *
    go_enter Tryd.func72, Tryd.ntmps72
    go_wp2_with fail
    refine HV.out.mono ?_
    rintro e w ⟨rfl, rfl⟩
    go_wp2_with fail
    go_step3
    go_wp2_with fail
    refine wp_loop_rounds 1 ?_
    rw [rounds_succ]
    go_wp2_with fail
    go_step3
    go_wp2_with fail
    go_quiet (fail)
    go_wp2_with fail
    obtain ⟨w1, hw1⟩ : ∃ w1, w1 = w.drewN nq := ⟨_, rfl⟩
    rw [← hw1]
    have HW := Lib.hid hw1
    clear hw1
    go_quiet (exact Calls.quiet_of_same (HIB.out B _))
    go_wp2_with fail
    rw [HW.out]
    rw [Exit.noGoto_ret]
    go_wp2_with fail
    rw [Exit.noGoto_ret]
    go_wp2_with fail
    go_ret
    exact ⟨rfl, below_drewN (below_drewN (Below.refl _ _) _) _⟩
  · have hge : ¬ ((R.size : Int) - 1 < 2) := by omega
    go_enter Tryd.func72, Tryd.ntmps72
    go_wp2_with fail
    refine HV.out.mono ?_
    rintro e w ⟨rfl, rfl⟩
    go_wp2_with fail
    go_step3
    go_wp2_with fail
    refine wp_loop_rounds 1 ?_
    rw [rounds_succ]
    go_wp2_with fail
    first | rw [Exit.noGoto_ret] | skip
    go_ret
    exact ⟨rfl, Below.refl _ _⟩
def lxBad : List UInt8 := [92, 10]
theorem lxBad_big {b : UInt8} (h : 128 ≤ b.toNat) : lxBad.contains b = false := by
  unfold lxBad
  simp only [List.contains_cons, List.contains_nil, Bool.or_false, Bool.or_eq_false_iff]
  constructor <;> (rw [beq_eq_false_iff_ne]; rintro rfl; simp at h)
theorem lxBad_eq : (str [92, 10]).data.toList = lxBad := rfl
theorem noAny_more {l : List UInt8} {i n : Nat} (h : Lib.NoAny l lxBad i) (hb : ∀ (k : Nat) (b : UInt8), k < n → l[i + k]? = some b → 128 ≤ b.toNat) : Lib.NoAny l lxBad (i + n) := fun j b hj hc => by
  rcases Nat.lt_or_ge j i with hlt | hge
  · exact h j b hlt hc
  · exact lxBad_big (hb (j - i) b (by omega) (by rw [show i + (j - i) = j by omega]; exact hc))
theorem get_bang (l : List UInt8) (i : Nat) (b : UInt8) (h : l[i]? = some b) : (str l).get! i = b := by
  obtain ⟨hi, he⟩ := List.getElem?_eq_some_iff.1 h
  have : (str l).get! i = (str l)[i]'(by rw [strSize]; exact hi) := by
    simp [ByteArray.get!, getElem!_pos, str, hi]
    rfl
  rw [this]
  exact he
set_option maxRecDepth 100000 in
theorem indexAny_any (w : World) (l : List UInt8) (hl : l.length < 1000000000) :
    Calls Tryd.prog 62 #[.string (str l), .string (str [92, 10])] w fun e w' => e = .returned (.int .i64 (Lib.indexAny l lxBad)) ∧ Below w.heap.size w w' := by
  have hz : (str l).size = l.length := strSize l
  by_cases h8 : 8 < l.length
  · refine (Tryd.strings_IndexAny_long (zero_of_info (n := 256) (by kernel_rfl)).1 (str l) (str [92, 10]) w (by decide) (by omega) (by omega) (by decide) (fun j b hb => ?_)).mono fun e w' ⟨h1, h2⟩ => ⟨by rw [h1, lxBad_eq]; simp [str], ?_⟩
    · have := List.mem_of_getElem? hb
      rw [lxBad_eq] at this
      unfold lxBad at this
      simp only [List.mem_cons, List.not_mem_nil, or_false] at this
      rcases this with rfl | rfl <;> decide
    · rw [h2]
      exact ((Below.refl _ _).alloc (Nat.le_refl _) _).alloc (by simp) _
  · have HU := Lib.hid (Tryd.strings_shouldUseASCIISet (l.length : Int) w)
    have HE := Lib.hid (fun u => idxRune_err u)
    have HB := Lib.hid (fun u => idxRune_big u)
    have h8z : ¬ (8 : Int) < (l.length : Int) := by omega
    clear h8
    have hcz : (str [92, 10]).size = 2 := rfl
    have hemp : (str [92, 10]).toList.isEmpty = false := by rw [str_toList]; rfl
    go_enter Tryd.func62, Tryd.ntmps62
    go_wp2_with fail
    refine HU.out.mono ?_
    rintro e w ⟨rfl, rfl⟩
    go_wp2_with fail
    go_loopg [9, 10] l.length (fun g _ _ wx => ∃ i : Nat, i + g = l.length ∧ wx.heap[w.heap.size]? = some (.stringIter (str l) i) ∧ Below w.heap.size w wx ∧ Hid (Lib.NoAny l lxBad i))
    case atStart => exact ⟨0, by omega, World.iter_heap _ _ _, (Below.refl _ _).alloc (Nat.le_refl _) _, Lib.hid (Lib.NoAny.zero _ _)⟩
    case round =>
      obtain ⟨i, hig, hit, hbx, HN⟩ := hrel
      cases gk with
      | zero =>
        obtain rfl : i = l.length := by omega
        have hnx := fun ty => run_next_stop (P := Tryd.prog) wr w.heap.size (str l) l.length ty hit (by omega)
        go_wp2_with fail
        go_ret
        exact ⟨by rw [Lib.indexAny_none HN.out]; rfl, hbx⟩
      | succ g =>
        have hi : i < l.length := by omega
        obtain ⟨x, hx⟩ : ∃ x, l[i]? = some x := ⟨_, List.getElem?_eq_getElem hi⟩
        have hgx := get_bang l i x hx
        obtain ⟨w2, hnx, hit2, hb2⟩ := run_next_at (P := Tryd.prog) wr w.heap.size (str l) i 0 hit (by omega)
        have hb3 := hbx.trans (hb2 _ (Nat.le_refl _))
        have HX := Lib.hid hx
        have hsz3 := hb3.size
        clear hb2 hit hbx
        by_cases h128 : x.toNat < 128
        · have hdec : Utf8.decode (str l) i = (x.toNat, 1) := by
            have h := decode_ascii (str l) i (by omega) (by rw [str_get]; rw [List.getElem?_eq_getElem hi] at hx; cases hx; exact h128)
            rw [h, str_get]
            rw [List.getElem?_eq_getElem hi] at hx
            cases hx
            rfl
          rw [hdec] at hnx hit2
          clear hdec hx
          have HI := Lib.hid (Tryd.strings_IndexRune_ascii (str [92, 10]) (x.toNat : Int) w2 (by omega) (by omega))
          rw [lxBad_eq, Lib.byte_back'] at HI
          have hcon := Lib.contains_iff_indexByte lxBad x
          cases hin : lxBad.contains x
          · rw [hin] at hcon
            have hlt : ¬ ((0 : Int) ≤ Lib.indexByte lxBad x) := of_decide_eq_false hcon.symm
            clear hcon
            go_wp2_with fail
            refine HI.out.mono ?_
            rintro e w2 ⟨rfl, rfl⟩
            go_wp2_with fail
            go_roundg g
            case measure => omega
            case rel => exact ⟨i + 1, by omega, hit2, hb3, Lib.hid (HN.out.succ HX.out hin)⟩
          · rw [hin] at hcon
            have hge : (0 : Int) ≤ Lib.indexByte lxBad x := of_decide_eq_true hcon.symm
            clear hcon
            go_wp2_with fail
            refine HI.out.mono ?_
            rintro e w2 ⟨rfl, rfl⟩
            go_wp2_with fail
            go_ret
            exact ⟨by rw [Lib.indexAny_hit HN.out HX.out hin]; rfl, hb3⟩
        · have hbig := decode_big (str l) i (by omega) (by rw [hgx]; omega)
          generalize Utf8.decode (str l) i = D at *
          obtain ⟨c, n⟩ := D
          obtain ⟨hc, hv, hn, hin, hall⟩ := hbig
          simp only at hc hv hn hin hall hnx hit2
          have HN2 := Lib.hid (noAny_more (n := n) HN.out (fun k b hk hb => by
            have := hall k hk
            rw [get_bang l (i + k) b hb] at this
            exact this))
          clear hall hx
          by_cases he : c = 65533
          · subst he
            go_wp2_with fail
            refine (HE.out w2).mono ?_
            rintro e w3 ⟨rfl, hb4⟩
            have hit3 := (hb4.block w.heap.size (Array.getElem?_eq_some_iff.1 hit2).1).trans hit2
            go_wp2_with fail
            go_roundg (g - (n - 1))
            case measure => omega
            case rel => exact ⟨i + n, by omega, hit3, hb3.trans (hb4.mono hsz3), HN2⟩
          · go_wp2_with fail
            refine (HB.out w2 (c : Int) (by omega) hv (by omega)).mono ?_
            rintro e w3 ⟨rfl, hb4⟩
            have hit3 := (hb4.block w.heap.size (Array.getElem?_eq_some_iff.1 hit2).1).trans hit2
            go_wp2_with fail
            go_roundg (g - (n - 1))
            case measure => omega
            case rel => exact ⟨i + n, by omega, hit3, hb3.trans (hb4.mono hsz3), HN2⟩
theorem indexAny_pos (l : List UInt8) : decide (0 ≤ Lib.indexAny l lxBad) = decide ((92 : UInt8) ∈ l ∨ (10 : UInt8) ∈ l) := by
  induction l with
  | nil => rfl
  | cons b l ih =>
    have hge := Lib.indexAny_ge lxBad l
    rw [decide_eq_decide] at ih ⊢
    unfold Lib.indexAny
    by_cases h : lxBad.contains b = true
    · rw [if_pos h]
      unfold lxBad at h
      simp only [List.contains_cons, List.contains_nil, Bool.or_false, Bool.or_eq_true, beq_iff_eq] at h
      simp only [Int.le_refl, true_iff, List.mem_cons]
      rcases h with rfl | rfl
      · exact .inl (.inl rfl)
      · exact .inr (.inl rfl)
    · rw [if_neg h]
      have h1 : ¬ (92 : UInt8) = b := by rintro rfl; exact h (by decide)
      have h2 : ¬ (10 : UInt8) = b := by rintro rfl; exact h (by decide)
      simp only [List.mem_cons, h1, h2, false_or]
      rw [← ih]
      split
      · rename_i h3
        have : Lib.indexAny l lxBad = -1 := by simpa using h3
        omega
      · rename_i h3
        have : Lib.indexAny l lxBad ≠ -1 := by simpa using h3
        omega
set_option maxRecDepth 100000 in
theorem containsAny_any (w : World) (l : List UInt8) (hl : l.length < 1000000000) :
    Calls Tryd.prog 48 #[.string (str l), .string (str [92, 10])] w fun e w' => e = .returned (.bool (decide ((92 : UInt8) ∈ l ∨ (10 : UInt8) ∈ l))) ∧ Below w.heap.size w w' := by
  have HI := Lib.hid (indexAny_any w l hl)
  have hp := indexAny_pos l
  generalize Lib.indexAny l lxBad = I at *
  rw [← hp]
  clear hp
  go_enter Tryd.func48, Tryd.ntmps48
  go_wp2_with fail
  refine HI.out.mono ?_
  rintro e w1 ⟨rfl, hb⟩
  go_wp2_with fail
  go_ret
  exact ⟨rfl, hb⟩
end Go.Proofs.YtekeanikgcpijaaDoor
namespace Go.Proofs.YtekeanikgcpijaaDoor
open Go.RowKit
def tokCells (t : Tok) (li co : Nat) : List Value := [.int .i64 (t.k : Int), .string (str t.t), .int .i64 (t.n : Int), .int .i64 (li : Int), .int .i64 (co : Int)]
def tokV (t : Tok) : Value := .agg (tokCells t 0 0).toArray
theorem drew_cell {w : World} {p : Addr} {v : Value} (h : w.cell? p = some v) : w.drew.cell? p = some v := h
def TokR (w : World) (A : Nat → Addr) (r : Tok × Nat) (e : Ending) (w' : World) : Prop :=
  e = .returned (.tuple #[tokV r.1, errOf A r.2]) ∧ Below w.heap.size w w'
set_option maxRecDepth 100000 in
theorem strClone_any (w : World) (l : List UInt8) (hl : l.length < 1000000000) : Calls Tryd.prog 12 #[.string (str l)] w fun e w' => e = .returned (.string (str l)) ∧ Below w.heap.size w w' := by
  go_enter Tryd.func12, Tryd.ntmps12
  go_wp2_with fail
  refine (Tryd.stringslite_Clone (str l) w (by rw [strSize]; omega)).mono ?_
  rintro e w1 ⟨rfl, hb⟩
  go_wp2_with fail
  go_ret
  exact ⟨rfl, hb⟩
set_option maxRecDepth 100000 in
theorem token_gap (w : World) (A : Nat → Addr) (p : List UInt8) : Calls Tryd.prog 27 #[.int .i64 0, .string (str p)] w (TokR w A (⟨0, [], 0⟩, 0)) := by
  go_enter Tryd.func27, Tryd.ntmps27
  go_wp2_with fail
  refine bodyPost_ret (results_row1 rfl _ _ w.heap.size 67 (tokCells ⟨0, [], 0⟩ 0 0) _ rfl ((Blk.new w _ _).alloc _) Tryd.underlying67 (by kernel_rfl)) rfl ⟨rfl, ((Below.refl _ _).alloc (Nat.le_refl _) _).alloc (by simp) _⟩
def tok0 (w : World) (k : Nat) : World := (w.alloc (.cells (tokCells ⟨0, [], 0⟩ 0 0).toArray 67)).alloc (.cells (tokCells ⟨k, [], 0⟩ 0 0).toArray 67)
theorem tok0_below (w : World) (k : Nat) : Below w.heap.size w (tok0 w k) := ((Below.refl _ _).alloc (Nat.le_refl _) _).alloc (by simp) _
theorem tok0_res (w : World) (k : Nat) : Blk (tok0 w k) w.heap.size 67 (tokCells ⟨0, [], 0⟩ 0 0) := (Blk.new w _ _).alloc _
theorem tok0_tok (w : World) (k : Nat) : Blk (tok0 w k) (w.heap.size + 1) 67 (tokCells ⟨k, [], 0⟩ 0 0) := by
  have h := Blk.new (w.alloc (.cells (tokCells ⟨0, [], 0⟩ 0 0).toArray 67)) 67 (tokCells ⟨k, [], 0⟩ 0 0)
  have e : (w.alloc (.cells (tokCells ⟨0, [], 0⟩ 0 0).toArray 67)).heap.size = w.heap.size + 1 := by simp
  rw [e] at h
  exact h
theorem Blk.cells5 {w : World} {g : Nat} {t : TypeId} {a b c d e : Value} (h : Blk w g t [a, b, c, d, e]) :
    w.cell? ⟨g, 0, none⟩ = some a ∧ w.cell? ⟨g, 1, none⟩ = some b ∧ w.cell? ⟨g, 2, none⟩ = some c ∧ w.cell? ⟨g, 3, none⟩ = some d ∧ w.cell? ⟨g, 4, none⟩ = some e :=
  ⟨h.cell 0, h.cell 1, h.cell 2, h.cell 3, h.cell 4⟩
set_option maxRecDepth 100000 in
set_option maxHeartbeats 1000000 in
theorem token_word (w : World) (A : Nat → Addr) (p : List UInt8) (hp : ¬ 40 < p.length) : Calls Tryd.prog 27 #[.int .i64 1, .string (str p)] w (TokR w A (⟨1, p, 0⟩, 0)) := by
  have hz : (str p).size = p.length := strSize p
  have hp' : ¬ (40 : Int) < (p.length : Int) := by omega
  have hk0 := tok0_res w 1
  have hk1 := tok0_tok w 1
  have hb0 := tok0_below w 1
  go_enter Tryd.func27, Tryd.ntmps27
  go_wp2_with fail
  refine (strClone_any (tok0 w 1) p (by omega)).mono ?_
  rintro e w3 ⟨rfl, hb3⟩
  replace hk0 := hk0.kept hb3
  replace hk1 := hk1.kept hb3
  have hB3 := hb0.trans (hb3.mono hb0.size)
  have f1 := hk1.frozen 1
  have f2 := hk1.frozen 2
  obtain ⟨c0, c1, c2, c3, c4⟩ := hk1.cells5
  obtain ⟨r0, r1, r2, r3, r4⟩ := hk0.cells5
  have fr0 := hk0.frozen 0
  have fr1 := hk0.frozen 1
  have fr2 := hk0.frozen 2
  have fr3 := hk0.frozen 3
  have fr4 := hk0.frozen 4
  go_wp2_with fail
  refine bodyPost_ret (results_row1 rfl _ _ w.heap.size 67 (tokCells ⟨1, p, 0⟩ 0 0) _ rfl ?_ Tryd.underlying67 (by kernel_rfl)) rfl ⟨rfl, ?_⟩
  · exact ((((((hk0.far (by simp only; omega) _).set_ 0 _).set_ 1 _).set_ 2 _).set_ 3 _).set_ 4 _)
  · exact ((((((hB3.setCell (by simp only; omega) _).setCell (by simp only; omega) _).setCell (by simp only; omega) _).setCell (by simp only; omega) _).setCell (by simp only; omega) _).setCell (by simp only; omega) _)
set_option maxRecDepth 100000 in
set_option maxHeartbeats 1000000 in
theorem token_long (w : World) (A : Nat → Addr) (m : Int) (hL : Lx w A m) (p : List UInt8) (hp : 40 < p.length) : Calls Tryd.prog 27 #[.int .i64 1, .string (str p)] w (TokR w A (⟨0, [], 0⟩, 3)) := by
  have hz : (str p).size = p.length := strSize p
  have hp' : (40 : Int) < (p.length : Int) := by omega
  have hk0 := tok0_res w 1
  have hk1 := tok0_tok w 1
  have hb0 := tok0_below w 1
  go_enter Tryd.func27, Tryd.ntmps27
  go_wp2_with fail
  obtain ⟨w3, hw3⟩ : ∃ w3, w3 = tok0 w 1 := ⟨_, rfl⟩
  have hB3 := hb0
  rw [← hw3] at hk0 hk1 hB3
  have f1 := hk1.frozen 1
  have f2 := hk1.frozen 2
  obtain ⟨c0, c1, c2, c3, c4⟩ := hk1.cells5
  obtain ⟨r0, r1, r2, r3, r4⟩ := hk0.cells5
  have fr0 := hk0.frozen 0
  have fr1 := hk0.frozen 1
  have fr2 := hk0.frozen 2
  have fr3 := hk0.frozen 3
  have fr4 := hk0.frozen 4
  show Code.wp Tryd.prog _ _ _ (tok0 w 1)
  rw [← hw3]
  clear hw3
  clear hb0
  have hlt := World.block_lt_of_cell? w ⟨0, 0, none⟩ hL.long
  have hlong := (hB3.cell (p := ⟨0, 0, none⟩) hlt).trans hL.long
  have hB5 := (((((hB3.setCell (p := ⟨w.heap.size, 0, none⟩) (Nat.le_refl _) (.int .i64 0)).setCell (p := ⟨w.heap.size, 1, none⟩) (Nat.le_refl _) (.string ⟨#[]⟩)).setCell (p := ⟨w.heap.size, 2, none⟩) (Nat.le_refl _) (.int .i64 0)).setCell (p := ⟨w.heap.size, 3, none⟩) (Nat.le_refl _) (.int .i64 0)).setCell (p := ⟨w.heap.size, 4, none⟩) (Nat.le_refl _) (.int .i64 0))
  have hS1 := (hB5.cell (p := ⟨0, 0, none⟩) hlt).trans hL.long
  have hlongd : w3.drew.cell? ⟨0, 0, none⟩ = some (errV A 2) := hlong
  have hS1d : (((((w3.setCell ⟨w.heap.size, 0, none⟩ (.int .i64 0)).setCell ⟨w.heap.size, 1, none⟩ (.string ⟨#[]⟩)).setCell ⟨w.heap.size, 2, none⟩ (.int .i64 0)).setCell ⟨w.heap.size, 3, none⟩ (.int .i64 0)).setCell ⟨w.heap.size, 4, none⟩ (.int .i64 0)).drew.cell? ⟨0, 0, none⟩ = some (errV A 2) := drew_cell hS1
  have hk5 := (((((hk0.set_ 0 (.int .i64 0)).set_ 1 (.string ⟨#[]⟩)).set_ 2 (.int .i64 0)).set_ 3 (.int .i64 0)).set_ 4 (.int .i64 0))
  go_region_held3 (fun w' => w'.cell? ⟨0, 0, none⟩ = some (errV A 2)) (first | with_reducible exact hlong | with_reducible exact hlongd | with_reducible exact hS1 | with_reducible exact hS1d) (fail)
  all_goals
    go_wp2_with fail
    refine bodyPost_ret (results_row1 rfl _ _ w.heap.size 67 _ _ rfl hk5.drew Tryd.underlying67 (by kernel_rfl)) rfl ⟨rfl, below_drewN hB5 1⟩
set_option maxRecDepth 100000 in
set_option maxHeartbeats 1000000 in
theorem token_int (w : World) (A : Nat → Addr) (m : Int) (hL : Lx w A m) (p : List UInt8) (h0 : 0 < p.length) (hl : p.length < 1000000000) (hok : (lnum p).2 = 0) : Calls Tryd.prog 27 #[.int .i64 2, .string (str p)] w (TokR w A (⟨2, p, (lnum p).1⟩, 0)) := by
  have HN := Lib.hid (number_any (tok0 w 2) A m (hL.below (tok0_below w 2)) p h0 hl)
  unfold NumR at HN
  rw [hok] at HN
  generalize (lnum p).1 = n at *
  have hk0 := tok0_res w 2
  have hk1 := tok0_tok w 2
  have hb0 := tok0_below w 2
  go_enter Tryd.func27, Tryd.ntmps27
  go_wp2_with fail
  refine HN.out.mono ?_
  rintro e w2 ⟨rfl, hb2⟩
  replace hk0 := hk0.kept hb2
  replace hk1 := hk1.kept hb2
  replace hb0 := hb0.trans (hb2.mono hb0.size)
  have g2 := hk1.frozen 2
  obtain ⟨d0, d1, d2, d3, d4⟩ := hk1.cells5
  rw [show errOf A 0 = Value.nilIface from rfl]
  go_wp2_with fail
  obtain ⟨w3', hw3'⟩ : ∃ w3', w3' = w2.setCell ⟨w.heap.size + 1, 2, none⟩ (.int .i64 (n : Int)) := ⟨_, rfl⟩
  replace hk0 : Blk w3' w.heap.size _ _ := hw3' ▸ hk0.far (p := ⟨w.heap.size + 1, 2, none⟩) (by simp only; omega) (.int .i64 (n : Int))
  replace hk1 : Blk w3' (w.heap.size + 1) _ _ := hw3' ▸ hk1.set_ 2 (.int .i64 (n : Int))
  replace hb0 : Below w.heap.size w w3' := hw3' ▸ hb0.setCell (p := ⟨w.heap.size + 1, 2, none⟩) (by simp only; omega) (.int .i64 (n : Int))
  rw [← hw3']
  clear hw3' g2 d0 d1 d2 d3 d4 hb2
  refine (strClone_any w3' p (by omega)).mono ?_
  rintro e w3 ⟨rfl, hb3⟩
  replace hk0 := hk0.kept hb3
  replace hk1 := hk1.kept hb3
  have hB3 := hb0.trans (hb3.mono hb0.size)
  have f1 := hk1.frozen 1
  have f2 := hk1.frozen 2
  obtain ⟨c0, c1, c2, c3, c4⟩ := hk1.cells5
  obtain ⟨r0, r1, r2, r3, r4⟩ := hk0.cells5
  have fr0 := hk0.frozen 0
  have fr1 := hk0.frozen 1
  have fr2 := hk0.frozen 2
  have fr3 := hk0.frozen 3
  have fr4 := hk0.frozen 4
  go_wp2_with fail
  refine bodyPost_ret (results_row1 rfl _ _ w.heap.size 67 (tokCells ⟨2, p, n⟩ 0 0) _ rfl ?_ Tryd.underlying67 (by kernel_rfl)) rfl ⟨rfl, ?_⟩
  · exact ((((((hk0.far (by simp only; omega) _).set_ 0 _).set_ 1 _).set_ 2 _).set_ 3 _).set_ 4 _)
  · exact ((((((hB3.setCell (by simp only; omega) _).setCell (by simp only; omega) _).setCell (by simp only; omega) _).setCell (by simp only; omega) _).setCell (by simp only; omega) _).setCell (by simp only; omega) _)
set_option maxRecDepth 100000 in
set_option maxHeartbeats 1000000 in
theorem token_nan (w : World) (A : Nat → Addr) (m : Int) (hL : Lx w A m) (p : List UInt8) (h0 : 0 < p.length) (hl : p.length < 1000000000) (b : Nat) (hbad : (lnum p).2 = b + 1) : Calls Tryd.prog 27 #[.int .i64 2, .string (str p)] w (TokR w A (⟨0, [], 0⟩, b + 1)) := by
  have HN := Lib.hid (number_any (tok0 w 2) A m (hL.below (tok0_below w 2)) p h0 hl)
  unfold NumR at HN
  rw [hbad, show errOf A (b + 1) = errV A b from rfl] at HN
  have hne := neq_errV A b
  generalize (lnum p).1 = n at *
  have hk0 := tok0_res w 2
  have hk1 := tok0_tok w 2
  have hb0 := tok0_below w 2
  go_enter Tryd.func27, Tryd.ntmps27
  go_wp2_with fail
  refine HN.out.mono ?_
  rintro e w3 ⟨rfl, hb3⟩
  replace hk0 := hk0.kept hb3
  replace hk1 := hk1.kept hb3
  have hB3 := hb0.trans (hb3.mono hb0.size)
  have f1 := hk1.frozen 1
  have f2 := hk1.frozen 2
  obtain ⟨c0, c1, c2, c3, c4⟩ := hk1.cells5
  obtain ⟨r0, r1, r2, r3, r4⟩ := hk0.cells5
  have fr0 := hk0.frozen 0
  have fr1 := hk0.frozen 1
  have fr2 := hk0.frozen 2
  have fr3 := hk0.frozen 3
  have fr4 := hk0.frozen 4
  go_wp2_with fail
  have hB5 := (((((hB3.setCell (p := ⟨w.heap.size, 0, none⟩) (Nat.le_refl _) (.int .i64 0)).setCell (p := ⟨w.heap.size, 1, none⟩) (Nat.le_refl _) (.string ⟨#[]⟩)).setCell (p := ⟨w.heap.size, 2, none⟩) (Nat.le_refl _) (.int .i64 0)).setCell (p := ⟨w.heap.size, 3, none⟩) (Nat.le_refl _) (.int .i64 0)).setCell (p := ⟨w.heap.size, 4, none⟩) (Nat.le_refl _) (.int .i64 0))
  have hk5 := (((((hk0.set_ 0 (.int .i64 0)).set_ 1 (.string ⟨#[]⟩)).set_ 2 (.int .i64 0)).set_ 3 (.int .i64 0)).set_ 4 (.int .i64 0))
  refine bodyPost_ret (results_row1 rfl _ _ w.heap.size 67 _ _ rfl hk5 Tryd.underlying67 (by kernel_rfl)) rfl ⟨rfl, hB5⟩
set_option maxRecDepth 100000 in
set_option maxHeartbeats 1000000 in
theorem token_text (w : World) (A : Nat → Addr) (p : List UInt8) (h2 : 2 ≤ p.length) (hl : p.length < 1000000000) (hb : decide ((92 : UInt8) ∈ (p.drop 1).take (p.length - 2) ∨ (10 : UInt8) ∈ (p.drop 1).take (p.length - 2)) = false) :
    Calls Tryd.prog 27 #[.int .i64 3, .string (str p)] w (TokR w A (⟨3, (p.drop 1).take (p.length - 2), 0⟩, 0)) := by
  have hz : (str p).size = p.length := strSize p
  have hmid : ∀ u, (Instr.slice 9 (.string (str p)) (some (.int .i64 1)) (some (.int .i64 ((p.length : Int) - 1))) none).run Tryd.prog u = .ok (.string (str ((p.drop 1).take (p.length - 2)))) u := fun u => by
    have h := str_mid p 1 (p.length - 1) (by omega) (by omega) u
    rw [show p.length - 1 - 1 = p.length - 2 by omega, show ((p.length - 1 : Nat) : Int) = (p.length : Int) - 1 by omega] at h
    exact h
  obtain ⟨q, hq⟩ : ∃ q, q = (p.drop 1).take (p.length - 2) := ⟨_, rfl⟩
  rw [← hq] at hmid hb  ⊢
  have hql : q.length < 1000000000 := by rw [hq, List.length_take]; omega
  clear hq
  have HC := Lib.hid (containsAny_any (tok0 w 3) q hql)
  rw [hb] at HC
  clear hb
  have hk0 := tok0_res w 3
  have hk1 := tok0_tok w 3
  have hb0 := tok0_below w 3
  go_enter Tryd.func27, Tryd.ntmps27
  go_wp2_with fail
  refine HC.out.mono ?_
  rintro e w2 ⟨rfl, hb2⟩
  replace hk0 := hk0.kept hb2
  replace hk1 := hk1.kept hb2
  replace hb0 := hb0.trans (hb2.mono hb0.size)
  go_wp2_with fail
  refine (strClone_any w2 q (by omega)).mono ?_
  rintro e w3 ⟨rfl, hb3⟩
  replace hk0 := hk0.kept hb3
  replace hk1 := hk1.kept hb3
  have hB3 := hb0.trans (hb3.mono hb0.size)
  have f1 := hk1.frozen 1
  have f2 := hk1.frozen 2
  obtain ⟨c0, c1, c2, c3, c4⟩ := hk1.cells5
  obtain ⟨r0, r1, r2, r3, r4⟩ := hk0.cells5
  have fr0 := hk0.frozen 0
  have fr1 := hk0.frozen 1
  have fr2 := hk0.frozen 2
  have fr3 := hk0.frozen 3
  have fr4 := hk0.frozen 4
  go_wp2_with fail
  refine bodyPost_ret (results_row1 rfl _ _ w.heap.size 67 (tokCells ⟨3, q, 0⟩ 0 0) _ rfl ?_ Tryd.underlying67 (by kernel_rfl)) rfl ⟨rfl, ?_⟩
  · exact ((((((hk0.far (by simp only; omega) _).set_ 0 _).set_ 1 _).set_ 2 _).set_ 3 _).set_ 4 _)
  · exact ((((((hB3.setCell (by simp only; omega) _).setCell (by simp only; omega) _).setCell (by simp only; omega) _).setCell (by simp only; omega) _).setCell (by simp only; omega) _).setCell (by simp only; omega) _)
set_option maxRecDepth 100000 in
set_option maxHeartbeats 1000000 in
theorem token_untext (w : World) (A : Nat → Addr) (m : Int) (hL : Lx w A m) (p : List UInt8) (h2 : 2 ≤ p.length) (hl : p.length < 1000000000) (hb : decide ((92 : UInt8) ∈ (p.drop 1).take (p.length - 2) ∨ (10 : UInt8) ∈ (p.drop 1).take (p.length - 2)) = true) :
    Calls Tryd.prog 27 #[.int .i64 3, .string (str p)] w (TokR w A (⟨0, [], 0⟩, 9)) := by
  have hz : (str p).size = p.length := strSize p
  have hmid : ∀ u, (Instr.slice 9 (.string (str p)) (some (.int .i64 1)) (some (.int .i64 ((p.length : Int) - 1))) none).run Tryd.prog u = .ok (.string (str ((p.drop 1).take (p.length - 2)))) u := fun u => by
    have h := str_mid p 1 (p.length - 1) (by omega) (by omega) u
    rw [show p.length - 1 - 1 = p.length - 2 by omega, show ((p.length - 1 : Nat) : Int) = (p.length : Int) - 1 by omega] at h
    exact h
  obtain ⟨q, hq⟩ : ∃ q, q = (p.drop 1).take (p.length - 2) := ⟨_, rfl⟩
  rw [← hq] at hmid hb
  have hql : q.length < 1000000000 := by rw [hq, List.length_take]; omega
  clear hq
  have HC := Lib.hid (containsAny_any (tok0 w 3) q hql)
  rw [hb] at HC
  clear hb
  have hk0 := tok0_res w 3
  have hk1 := tok0_tok w 3
  have hb0 := tok0_below w 3
  go_enter Tryd.func27, Tryd.ntmps27
  go_wp2_with fail
  refine HC.out.mono ?_
  rintro e w3 ⟨rfl, hb3⟩
  replace hk0 := hk0.kept hb3
  replace hk1 := hk1.kept hb3
  have hB3 := hb0.trans (hb3.mono hb0.size)
  have f1 := hk1.frozen 1
  have f2 := hk1.frozen 2
  obtain ⟨c0, c1, c2, c3, c4⟩ := hk1.cells5
  obtain ⟨r0, r1, r2, r3, r4⟩ := hk0.cells5
  have fr0 := hk0.frozen 0
  have fr1 := hk0.frozen 1
  have fr2 := hk0.frozen 2
  have fr3 := hk0.frozen 3
  have fr4 := hk0.frozen 4
  go_wp2_with fail
  have hlt := World.block_lt_of_cell? w ⟨3, 0, none⟩ hL.form
  have hlong := (hB3.cell (p := ⟨3, 0, none⟩) hlt).trans hL.form
  have hB5 := (((((hB3.setCell (p := ⟨w.heap.size, 0, none⟩) (Nat.le_refl _) (.int .i64 0)).setCell (p := ⟨w.heap.size, 1, none⟩) (Nat.le_refl _) (.string ⟨#[]⟩)).setCell (p := ⟨w.heap.size, 2, none⟩) (Nat.le_refl _) (.int .i64 0)).setCell (p := ⟨w.heap.size, 3, none⟩) (Nat.le_refl _) (.int .i64 0)).setCell (p := ⟨w.heap.size, 4, none⟩) (Nat.le_refl _) (.int .i64 0))
  have hS1 := (hB5.cell (p := ⟨3, 0, none⟩) hlt).trans hL.form
  have hlongd : w3.drew.cell? ⟨3, 0, none⟩ = some (errV A 8) := hlong
  have hS1d : (((((w3.setCell ⟨w.heap.size, 0, none⟩ (.int .i64 0)).setCell ⟨w.heap.size, 1, none⟩ (.string ⟨#[]⟩)).setCell ⟨w.heap.size, 2, none⟩ (.int .i64 0)).setCell ⟨w.heap.size, 3, none⟩ (.int .i64 0)).setCell ⟨w.heap.size, 4, none⟩ (.int .i64 0)).drew.cell? ⟨3, 0, none⟩ = some (errV A 8) := drew_cell hS1
  have hk5 := (((((hk0.set_ 0 (.int .i64 0)).set_ 1 (.string ⟨#[]⟩)).set_ 2 (.int .i64 0)).set_ 3 (.int .i64 0)).set_ 4 (.int .i64 0))
  go_region_held3 (fun w' => w'.cell? ⟨3, 0, none⟩ = some (errV A 8)) (first | with_reducible exact hlong | with_reducible exact hlongd | with_reducible exact hS1 | with_reducible exact hS1d) (fail)
  all_goals
    go_wp2_with fail
    refine bodyPost_ret (results_row1 rfl _ _ w.heap.size 67 _ _ rfl hk5.drew Tryd.underlying67 (by kernel_rfl)) rfl ⟨rfl, below_drewN hB5 1⟩
set_option maxRecDepth 100000 in
set_option maxHeartbeats 1000000 in
theorem token_sign (w : World) (A : Nat → Addr) (p : List UInt8) (hl : p.length < 1000000000) : Calls Tryd.prog 27 #[.int .i64 4, .string (str p)] w (TokR w A (⟨4, p, 0⟩, 0)) := by
  have hk0 := tok0_res w 4
  have hk1 := tok0_tok w 4
  have hb0 := tok0_below w 4
  go_enter Tryd.func27, Tryd.ntmps27
  go_wp2_with fail
  refine (strClone_any (tok0 w 4) p (by omega)).mono ?_
  rintro e w3 ⟨rfl, hb3⟩
  replace hk0 := hk0.kept hb3
  replace hk1 := hk1.kept hb3
  have hB3 := hb0.trans (hb3.mono hb0.size)
  have f1 := hk1.frozen 1
  have f2 := hk1.frozen 2
  obtain ⟨c0, c1, c2, c3, c4⟩ := hk1.cells5
  obtain ⟨r0, r1, r2, r3, r4⟩ := hk0.cells5
  have fr0 := hk0.frozen 0
  have fr1 := hk0.frozen 1
  have fr2 := hk0.frozen 2
  have fr3 := hk0.frozen 3
  have fr4 := hk0.frozen 4
  go_wp2_with fail
  refine bodyPost_ret (results_row1 rfl _ _ w.heap.size 67 (tokCells ⟨4, p, 0⟩ 0 0) _ rfl ?_ Tryd.underlying67 (by kernel_rfl)) rfl ⟨rfl, ?_⟩
  · exact ((((((hk0.far (by simp only; omega) _).set_ 0 _).set_ 1 _).set_ 2 _).set_ 3 _).set_ 4 _)
  · exact ((((((hB3.setCell (by simp only; omega) _).setCell (by simp only; omega) _).setCell (by simp only; omega) _).setCell (by simp only; omega) _).setCell (by simp only; omega) _).setCell (by simp only; omega) _)
end Go.Proofs.YtekeanikgcpijaaDoor
namespace Go.Proofs.YtekeanikgcpijaaDoor
open Go.RowKit
theorem lcut_kind (l : List UInt8) : (lcut l).1 ≤ 4 := by
  unfold lcut
  repeat' split
  all_goals simp
theorem lcut_text {l : List UInt8} (h0 : 0 < l.length) (hk : (lcut l).1 = 3) (h : (lcut l).2.2 = 0) : 2 ≤ (lcut l).2.1 := by
  have h1 := fun h => lclosed_size (k := 1) (e := [l.headD 0]) (l := l) (by omega) h
  unfold lcut at hk h ⊢
  repeat' split at hk
  all_goals (first | (exfalso; simp at hk; done) | skip)
  rename_i a b c d e f
  rw [if_neg a, if_neg b, if_neg c, if_neg d, if_neg e, if_pos f] at h ⊢
  have := (h1 h).1
  simp only [List.length_cons, List.length_nil] at this
  simp only
  omega
theorem token_any (w : World) (A : Nat → Addr) (m : Int) (hL : Lx w A m) (k : Nat) (p : List UInt8) (hk : k ≤ 4) (h0 : k = 2 → 0 < p.length) (h2 : k = 3 → 2 ≤ p.length) (hl : p.length < 1000000000) :
    Calls Tryd.prog 27 #[.int .i64 (k : Int), .string (str p)] w (TokR w A (ltoken k p)) := by
  unfold ltoken
  match k, hk with
  | 0, _ => exact token_gap w A p
  | 1, _ =>
    rw [if_neg (by omega), if_pos rfl]
    by_cases h : 40 < p.length
    · rw [if_pos h]; exact token_long w A m hL p h
    · rw [if_neg h]; exact token_word w A p h
  | 2, _ =>
    rw [if_neg (by omega), if_neg (by omega), if_pos rfl]
    by_cases h : (lnum p).2 = 0
    · rw [if_pos h]; exact token_int w A m hL p (h0 rfl) hl h
    · rw [if_neg h]
      obtain ⟨b, hb⟩ : ∃ b, (lnum p).2 = b + 1 := ⟨(lnum p).2 - 1, by omega⟩
      rw [hb]
      exact token_nan w A m hL p (h0 rfl) hl b hb
  | 3, _ =>
    rw [if_neg (by omega), if_neg (by omega), if_neg (by omega), if_pos rfl]
    by_cases h : (92 : UInt8) ∈ (p.drop 1).take (p.length - 2) ∨ (10 : UInt8) ∈ (p.drop 1).take (p.length - 2)
    · rw [if_pos h]; exact token_untext w A m hL p (h2 rfl) hl (decide_eq_true h)
    · rw [if_neg h]; exact token_text w A p (h2 rfl) hl (decide_eq_false h)
  | 4, _ =>
    rw [if_neg (by omega), if_neg (by omega), if_neg (by omega), if_neg (by omega)]
    exact token_sign w A p hl
def FirstR (w : World) (A : Nat → Addr) (r : Tok × Nat × Nat) (e : Ending) (w' : World) : Prop :=
  e = .returned (.tuple #[tokV r.1, .int .i64 (r.2.1 : Int), errOf A r.2.2]) ∧ Below w.heap.size w w'
set_option maxRecDepth 100000 in
set_option maxHeartbeats 1000000 in
theorem first_any (w : World) (A : Nat → Addr) (m : Int) (hL : Lx w A m) (l : List UInt8) (h0 : 0 < l.length) (hl : l.length < 1000000000) :
    Calls Tryd.prog 19 #[.string (str l)] w (FirstR w A (lfirst l)) := by
  obtain ⟨w1, hw1⟩ : ∃ w1, w1 = w.alloc (.cells (tokCells ⟨0, [], 0⟩ 0 0).toArray 67) := ⟨_, rfl⟩
  have hk1 : Blk w1 w.heap.size 67 (tokCells ⟨0, [], 0⟩ 0 0) := hw1 ▸ Blk.new w _ _
  have hb1 : Below w.heap.size w w1 := hw1 ▸ (Below.refl _ _).alloc (Nat.le_refl _) _
  have HC := Lib.hid (cut_any w1 A m (hL.below hb1) l h0 hl)
  have hkind := lcut_kind l
  have hsz := fun h => lcut_size (l := l) h0 h
  have htx := fun hk h => lcut_text (l := l) h0 hk h
  unfold CutR at HC
  unfold lfirst
  generalize lcut l = C at *
  obtain ⟨k, s, b⟩ := C
  simp only at HC hkind hsz htx ⊢
  by_cases hb : b = 0
  · subst hb
    rw [if_neg (by omega)]
    obtain ⟨hs0, hs1⟩ := hsz rfl
    have hup := str_upto l s hs1
    rw [show errOf A 0 = Value.nilIface from rfl] at HC
    have HT := Lib.hid (fun (u : World) (hu : Lx u A m) => token_any u A m hu k (l.take s) hkind (fun _ => by rw [List.length_take]; omega) (fun hk => by have := htx hk rfl; rw [List.length_take]; omega) (by rw [List.length_take]; omega))
    unfold TokR at HT
    generalize ltoken k (l.take s) = T at *
    obtain ⟨t, c⟩ := T
    simp only at HT ⊢
    clear hsz htx hkind
    by_cases hc : c = 0
    · subst hc
      rw [if_neg (by omega)]
      rw [show errOf A 0 = Value.nilIface from rfl] at HT
      go_enter Tryd.func19, Tryd.ntmps19
      go_wp2_with fail
      rw [hw1] at HC
      refine HC.out.mono ?_
      rintro e w2 ⟨rfl, hb2⟩
      rw [← hw1] at hb2
      clear HC
      replace hk1 := hk1.kept hb2
      have hB2 := hb1.trans (hb2.mono hb1.size)
      clear hw1
      go_wp2_with fail
      refine (HT.out w2 (hL.below hB2)).mono ?_
      rintro e w3 ⟨rfl, hb3⟩
      replace hk1 := hk1.kept hb3
      have hB3 := hB2.trans (hb3.mono hB2.size)
      obtain ⟨r0, r1, r2, r3, r4⟩ := hk1.cells5
      have fr0 := hk1.frozen 0
      have fr1 := hk1.frozen 1
      have fr2 := hk1.frozen 2
      have fr3 := hk1.frozen 3
      have fr4 := hk1.frozen 4
      unfold tokV tokCells
      go_wp2_with fail
      refine bodyPost_ret (results_row2 rfl _ _ w.heap.size _ _ _ rfl ((((((((((hk1.set_ 0 _).set_ 1 _).set_ 2 _).set_ 3 _).set_ 4 _).set_ 0 _).set_ 1 _).set_ 2 _).set_ 3 _).set_ 4 _) Tryd.underlying67 (by kernel_rfl)) rfl ⟨rfl, ((((((((((hB3.setCell (p := ⟨w.heap.size, 0, none⟩) (Nat.le_refl _) _).setCell (p := ⟨w.heap.size, 1, none⟩) (Nat.le_refl _) _).setCell (p := ⟨w.heap.size, 2, none⟩) (Nat.le_refl _) _).setCell (p := ⟨w.heap.size, 3, none⟩) (Nat.le_refl _) _).setCell (p := ⟨w.heap.size, 4, none⟩) (Nat.le_refl _) _).setCell (p := ⟨w.heap.size, 0, none⟩) (Nat.le_refl _) _).setCell (p := ⟨w.heap.size, 1, none⟩) (Nat.le_refl _) _).setCell (p := ⟨w.heap.size, 2, none⟩) (Nat.le_refl _) _).setCell (p := ⟨w.heap.size, 3, none⟩) (Nat.le_refl _) _).setCell (p := ⟨w.heap.size, 4, none⟩) (Nat.le_refl _) _)⟩
    · obtain ⟨c, rfl⟩ : ∃ d, c = d + 1 := ⟨c - 1, by omega⟩
      rw [if_pos (by omega)]
      rw [show errOf A (c + 1) = errV A c from rfl] at HT
      have hne := neq_errV A c
      go_enter Tryd.func19, Tryd.ntmps19
      go_wp2_with fail
      rw [hw1] at HC
      refine HC.out.mono ?_
      rintro e w2 ⟨rfl, hb2⟩
      rw [← hw1] at hb2
      clear HC
      replace hk1 := hk1.kept hb2
      have hB2 := hb1.trans (hb2.mono hb1.size)
      clear hw1
      go_wp2_with fail
      refine (HT.out w2 (hL.below hB2)).mono ?_
      rintro e w3 ⟨rfl, hb3⟩
      replace hk1 := hk1.kept hb3
      have hB3 := hB2.trans (hb3.mono hB2.size)
      obtain ⟨r0, r1, r2, r3, r4⟩ := hk1.cells5
      have fr0 := hk1.frozen 0
      have fr1 := hk1.frozen 1
      have fr2 := hk1.frozen 2
      have fr3 := hk1.frozen 3
      have fr4 := hk1.frozen 4
      unfold tokV tokCells
      go_wp2_with fail
      refine bodyPost_ret (results_row2 rfl _ _ w.heap.size _ _ _ rfl ((((((((((hk1.set_ 0 _).set_ 1 _).set_ 2 _).set_ 3 _).set_ 4 _).set_ 0 _).set_ 1 _).set_ 2 _).set_ 3 _).set_ 4 _) Tryd.underlying67 (by kernel_rfl)) rfl ⟨rfl, ((((((((((hB3.setCell (p := ⟨w.heap.size, 0, none⟩) (Nat.le_refl _) _).setCell (p := ⟨w.heap.size, 1, none⟩) (Nat.le_refl _) _).setCell (p := ⟨w.heap.size, 2, none⟩) (Nat.le_refl _) _).setCell (p := ⟨w.heap.size, 3, none⟩) (Nat.le_refl _) _).setCell (p := ⟨w.heap.size, 4, none⟩) (Nat.le_refl _) _).setCell (p := ⟨w.heap.size, 0, none⟩) (Nat.le_refl _) _).setCell (p := ⟨w.heap.size, 1, none⟩) (Nat.le_refl _) _).setCell (p := ⟨w.heap.size, 2, none⟩) (Nat.le_refl _) _).setCell (p := ⟨w.heap.size, 3, none⟩) (Nat.le_refl _) _).setCell (p := ⟨w.heap.size, 4, none⟩) (Nat.le_refl _) _)⟩
  · obtain ⟨b, rfl⟩ : ∃ d, b = d + 1 := ⟨b - 1, by omega⟩
    rw [if_pos (by omega)]
    rw [show errOf A (b + 1) = errV A b from rfl] at HC
    have hne := neq_errV A b
    go_enter Tryd.func19, Tryd.ntmps19
    go_wp2_with fail
    rw [hw1] at HC
    refine HC.out.mono ?_
    rintro e w2 ⟨rfl, hb2⟩
    rw [← hw1] at hb2
    clear HC
    replace hk1 := hk1.kept hb2
    have hB2 := hb1.trans (hb2.mono hb1.size)
    clear hw1
    obtain ⟨r0, r1, r2, r3, r4⟩ := hk1.cells5
    have fr0 := hk1.frozen 0
    have fr1 := hk1.frozen 1
    have fr2 := hk1.frozen 2
    have fr3 := hk1.frozen 3
    have fr4 := hk1.frozen 4
    go_wp2_with fail
    refine bodyPost_ret (results_row2 rfl _ _ w.heap.size _ _ _ rfl (((((hk1.set_ 0 _).set_ 1 _).set_ 2 _).set_ 3 _).set_ 4 _) Tryd.underlying67 (by kernel_rfl)) rfl ⟨rfl, (((((hB2.setCell (p := ⟨w.heap.size, 0, none⟩) (Nat.le_refl _) _).setCell (p := ⟨w.heap.size, 1, none⟩) (Nat.le_refl _) _).setCell (p := ⟨w.heap.size, 2, none⟩) (Nat.le_refl _) _).setCell (p := ⟨w.heap.size, 3, none⟩) (Nat.le_refl _) _).setCell (p := ⟨w.heap.size, 4, none⟩) (Nat.le_refl _) _)⟩
end Go.Proofs.YtekeanikgcpijaaDoor
