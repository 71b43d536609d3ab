/- The contract of strings.ContainsAny at the two signs that no quoted text bears: whether one of them is there, of all bytes. Condition: fewer than 1000000000 bytes. -/
import Derived.Test.YtgpihhigajmldaaDoorProg
import Derived.Test.YtgpihhigajmldaaDoorMem
import Derived.Test.YtgpihhigajmldaaDoorLexSpan
import Derived.Test.YtgpihhigajmldaaDoorShelf
import Derived.Laws.RangeString
import Derived.Laws.Runes
import Derived.Deep.LoopGhost
import Derived.Lib.IndexAny
import Derived.Deep.QuietTactic
import Derived.BigQuiet
import Derived.WalkMore
namespace Go.Proofs.YtgpihhigajmldaaDoor
open Go.RowKit

set_option maxRecDepth 100000 in
theorem decode_big (s : ByteArray) (i : Nat) (hi : i < s.size) (hb : 128 ≤ (s.get! i).toNat) :
    128 ≤ (Utf8.decode s i).1 ∧ Utf8.valid ((Utf8.decode s i).1 : Int) = true ∧ 1 ≤ (Utf8.decode s i).2 ∧ i + (Utf8.decode s i).2 ≤ s.size ∧ ∀ k, k < (Utf8.decode s i).2 → 128 ≤ (s.get! (i + k)).toNat := by
  have hone : (∀ k, k < 1 → 128 ≤ (s.get! (i + k)).toNat) := fun k hk => by
    obtain rfl : k = 0 := by omega
    exact hb
  have bad : 128 ≤ Utf8.runeError ∧ Utf8.valid (Utf8.runeError : Int) = true ∧ 1 ≤ 1 ∧ i + 1 ≤ s.size ∧ ∀ k, k < 1 → 128 ≤ (s.get! (i + k)).toNat := ⟨by decide, by decide, by omega, by omega, hone⟩
  have lt : ∀ k, (s.get! (i + k)).toNat < 256 := fun k => UInt8.toNat_lt _
  have l0 := lt 0; have l1 := lt 1; have l2 := lt 2; have l3 := lt 3
  have hb0 : 128 ≤ (s.get! (i + 0)).toNat := hb
  unfold Utf8.decode
  dsimp only
  rw [if_neg (show ¬ (s.get! (i + 0)).toNat < 128 by omega)]
  have val : ∀ c : Nat, Utf8.valid (c : Int) = true ↔ (c < 55296 ∨ 57344 ≤ c ∧ c ≤ 1114111) := fun c => by
    unfold Utf8.valid
    simp only [Bool.or_eq_true, Bool.and_eq_true, decide_eq_true_eq]
    omega
  split
  · rename_i h
    simp only [Bool.and_eq_true, decide_eq_true_eq, beq_iff_eq] at h
    split
    · rename_i hc
      refine ⟨hc, (val _).2 (by simp only; omega), by simp, by simp only; omega, fun k hk => ?_⟩
      simp only at hk
      match k, hk with
      | 0, _ => exact hb
      | 1, _ => omega
    · exact bad
  split
  · rename_i h
    simp only [Bool.and_eq_true, decide_eq_true_eq, beq_iff_eq] at h
    split
    · rename_i hc
      simp only [Bool.and_eq_true, decide_eq_true_eq, ge_iff_le] at hc
      refine ⟨by simp only; omega, hc.2, by simp, by simp only; omega, fun k hk => ?_⟩
      simp only at hk
      match k, hk with
      | 0, _ => exact hb
      | 1, _ => omega
      | 2, _ => omega
    · exact bad
  split
  · rename_i h
    simp only [Bool.and_eq_true, decide_eq_true_eq, beq_iff_eq] at h
    split
    · rename_i hc
      simp only [Bool.and_eq_true, decide_eq_true_eq, ge_iff_le] at hc
      refine ⟨by simp only; omega, hc.2, by simp, by simp only; omega, fun k hk => ?_⟩
      simp only at hk
      match k, hk with
      | 0, _ => exact hb
      | 1, _ => omega
      | 2, _ => omega
      | 3, _ => omega
    · exact bad
  · exact bad

/-- One round of a range over a text, in a world of one's own. -/
theorem run_next_at {P : Program} (w : World) (g : Nat) (s : ByteArray) (pos : Nat) (ty : TypeId) (h : w.heap[g]? = some (.stringIter s pos)) (hp : pos < s.size) :
    ∃ w', (Instr.next (.pointer (some ⟨g, 0, none⟩)) true ty).run P w = .ok (.tuple #[.bool true, .int .i64 pos, .int .i32 (Utf8.decode s pos).1]) w' ∧ w'.heap[g]? = some (.stringIter s (pos + (Utf8.decode s pos).2)) ∧ ∀ B, B ≤ g → Below B w w' := by
  have hg : g < w.heap.size := by
    rcases Nat.lt_or_ge g w.heap.size with hlt | hge
    · exact hlt
    · rw [Array.getElem?_eq_none hge] at h; cases h
  refine ⟨{ w with heap := w.heap.setIfInBounds g (.stringIter s (pos + (Utf8.decode s pos).2)) }, ?_, ?_, fun B hB => ?_⟩
  · simp only [Instr.next, getObj, setObj, Sem.run_bind, Sem.run, h, Result.andThen, hp, if_true]
    simp [goInt]
  · simp [hg]
  · refine ⟨rfl, rfl, rfl, by simp, fun j hj => ?_⟩
    show (w.heap.setIfInBounds g _)[j]? = _
    rw [Array.getElem?_setIfInBounds_ne (by omega)]
theorem run_next_stop {P : Program} (w : World) (g : Nat) (s : ByteArray) (pos : Nat) (ty : TypeId) (h : w.heap[g]? = some (.stringIter s pos)) (hp : ¬ pos < s.size) :
    (Instr.next (.pointer (some ⟨g, 0, none⟩)) true ty).run P w = .ok (.tuple #[.bool false]) w := by
  simp [Instr.next, getObj, Sem.run, h, hp]

set_option maxRecDepth 100000 in
theorem idxRune_err (w : World) : Calls Tryd.prog 72 #[.string (str [92, 10]), .int .i32 65533] w fun e w' => e = .returned (.int .i64 (-1)) ∧ Below w.heap.size w w' := by
  have n0 : ∀ ty, (Instr.next (.pointer (some ⟨w.heap.size, 0, none⟩)) true ty).run Tryd.prog (w.iter (str [92, 10]) 0) = .ok (.tuple #[.bool true, .int .i64 0, .int .i32 92]) (w.iter (str [92, 10]) 1) := fun ty => run_next_ascii w (str [92, 10]) 0 ty (by decide) (by decide)
  have n1 : ∀ ty, (Instr.next (.pointer (some ⟨w.heap.size, 0, none⟩)) true ty).run Tryd.prog (w.iter (str [92, 10]) 1) = .ok (.tuple #[.bool true, .int .i64 1, .int .i32 10]) (w.iter (str [92, 10]) 2) := fun ty => run_next_ascii w (str [92, 10]) 1 ty (by decide) (by decide)
  have n2 : ∀ ty, (Instr.next (.pointer (some ⟨w.heap.size, 0, none⟩)) true ty).run Tryd.prog (w.iter (str [92, 10]) 2) = .ok (.tuple #[.bool false]) (w.iter (str [92, 10]) 2) := fun ty => run_next_end w (str [92, 10]) 2 ty (by decide)
  go_enter Tryd.func72, Tryd.ntmps72
  go_wp2_with fail
  refine wp_loop_rounds 3 ?_
  rw [rounds_succ]
  go_wp2
  rw [rounds_succ]
  go_wp2
  rw [rounds_succ]
  go_wp2
  go_ret
  exact ⟨rfl, (Below.refl _ _).alloc (Nat.le_refl _) _⟩
theorem two_of (R : ByteArray) (h : R.size = 2) : ∃ a b, R = str [a, b] ∧ R[R.size - 1]'(by omega) = b := by
  obtain ⟨⟨l⟩⟩ := R
  match l, h with
  | [a, b], _ => exact ⟨a, b, rfl, rfl⟩
set_option maxRecDepth 100000 in
theorem idxRune_big (w : World) (c : Int) (h : 128 ≤ c) (hv : Utf8.valid c = true) (hne : ¬ c = 65533) : Calls Tryd.prog 72 #[.string (str [92, 10]), .int .i32 c] w fun e w' => e = .returned (.int .i64 (-1)) ∧ Below w.heap.size w w' := by
  have hlt : ¬ c < 128 := by omega
  have hval : Lib.validRune c = true := by
    unfold Utf8.valid at hv
    unfold Lib.validRune
    simp only [Bool.or_eq_true, Bool.and_eq_true, decide_eq_true_eq] at hv ⊢
    omega
  obtain ⟨h2, h4, hlast⟩ := encode_facts c hv h
  have HV := Lib.hid (Tryd.utf8_ValidRune c w)
  rw [hval] at HV
  have hcv : ∀ u, (convert 21 9 (.int .i32 c)).run Tryd.prog u = .ok (.string (Utf8.encode c)) u := fun u => run_convert_int_string u _ _ .i32 c (by kernel_rfl) Tryd.underlying9
  clear hval hv
  generalize Utf8.encode c = R at *
  have hz : (str [92, 10]).size = 2 := rfl
  by_cases hR : R.size = 2
  · obtain ⟨a, b, rfl, hb⟩ := two_of R hR
    have hb' := hlast (by omega)
    rw [hb] at hb'
    clear hb hlast h2 h4
    have i1 : ∀ u, (Instr.index 9 (.string (str [92, 10])) (.int .i64 1)).run Tryd.prog u = .ok (.int .u8 10) u := str_index [92, 10] 1 (by decide)
    have i2 : ∀ u, (Instr.index 9 (.string (str [a, b])) (.int .i64 1)).run Tryd.prog u = .ok (.int .u8 (b.toNat : Int)) u := str_index [a, b] 1 (by simp)
    have i3 : ∀ u, (Instr.slice 9 (.string (str [92, 10])) (some (.int .i64 2)) none none).run Tryd.prog u = .ok (.string (str [])) u := str_from [92, 10] 2 (by decide)
    have hIB : ∀ (x : Int) u, Calls Tryd.prog 50 #[.string (str []), .int .u8 x] u fun e w' => e = .returned (.int .i64 (-1)) ∧ w' = u := fun x u => Tryd.strings_IndexByte (str []) x u
    have HIB := Lib.hid hIB
    clear hIB
    have hwr : IntKind.i64.wrap 2 = 2 := by decide
    have hbn : ((10 : Int) != (b.toNat : Int)) = true := bne_iff_ne.2 (by omega)
    generalize (b.toNat : Int) = B at *
    go_enter Tryd.func72, Tryd.ntmps72
    go_wp2_with fail
    refine HV.out.mono ?_
    rintro e w ⟨rfl, rfl⟩
    go_wp2_with fail
    go_step3
    go_wp2_with fail
    refine wp_loop_rounds 1 ?_
    rw [rounds_succ]
    go_wp2_with fail
    go_step3
    go_wp2_with fail
    go_quiet (fail)
    go_wp2_with fail
    obtain ⟨w1, hw1⟩ : ∃ w1, w1 = w.drewN nq := ⟨_, rfl⟩
    rw [← hw1]
    have HW := Lib.hid hw1
    clear hw1
    go_quiet (exact Calls.quiet_of_same (HIB.out B _))
    go_wp2_with fail
    rw [HW.out]
    rw [Exit.noGoto_ret]
    go_wp2_with fail
    rw [Exit.noGoto_ret]
    go_wp2_with fail
    go_ret
    exact ⟨rfl, below_drewN (below_drewN (Below.refl _ _) _) _⟩
  · have hge : ¬ ((R.size : Int) - 1 < 2) := by omega
    go_enter Tryd.func72, Tryd.ntmps72
    go_wp2_with fail
    refine HV.out.mono ?_
    rintro e w ⟨rfl, rfl⟩
    go_wp2_with fail
    go_step3
    go_wp2_with fail
    refine wp_loop_rounds 1 ?_
    rw [rounds_succ]
    go_wp2_with fail
    first | rw [Exit.noGoto_ret] | skip
    go_ret
    exact ⟨rfl, Below.refl _ _⟩

/-! ### ContainsAny -/
def lxBad : List UInt8 := [92, 10]
theorem lxBad_big {b : UInt8} (h : 128 ≤ b.toNat) : lxBad.contains b = false := by
  unfold lxBad
  simp only [List.contains_cons, List.contains_nil, Bool.or_false, Bool.or_eq_false_iff]
  constructor <;> (rw [beq_eq_false_iff_ne]; rintro rfl; simp at h)
theorem lxBad_eq : (str [92, 10]).data.toList = lxBad := rfl
theorem noAny_more {l : List UInt8} {i n : Nat} (h : Lib.NoAny l lxBad i) (hb : ∀ (k : Nat) (b : UInt8), k < n → l[i + k]? = some b → 128 ≤ b.toNat) : Lib.NoAny l lxBad (i + n) := fun j b hj hc => by
  rcases Nat.lt_or_ge j i with hlt | hge
  · exact h j b hlt hc
  · exact lxBad_big (hb (j - i) b (by omega) (by rw [show i + (j - i) = j by omega]; exact hc))
theorem get_bang (l : List UInt8) (i : Nat) (b : UInt8) (h : l[i]? = some b) : (str l).get! i = b := by
  obtain ⟨hi, he⟩ := List.getElem?_eq_some_iff.1 h
  have : (str l).get! i = (str l)[i]'(by rw [strSize]; exact hi) := by
    simp [ByteArray.get!, getElem!_pos, str, hi]
    rfl
  rw [this]
  exact he
set_option maxRecDepth 100000 in
theorem indexAny_any (w : World) (l : List UInt8) (hl : l.length < 1000000000) :
    Calls Tryd.prog 63 #[.string (str l), .string (str [92, 10])] w fun e w' => e = .returned (.int .i64 (Lib.indexAny l lxBad)) ∧ Below w.heap.size w w' := by
  have hz : (str l).size = l.length := strSize l
  by_cases h8 : 8 < l.length
  · refine (Tryd.strings_IndexAny_long (zero_of_info (n := 256) (by kernel_rfl)).1 (str l) (str [92, 10]) w (by decide) (by omega) (by omega) (by decide) (fun j b hb => ?_)).mono fun e w' ⟨h1, h2⟩ => ⟨by rw [h1, lxBad_eq]; simp [str], ?_⟩
    · have := List.mem_of_getElem? hb
      rw [lxBad_eq] at this
      unfold lxBad at this
      simp only [List.mem_cons, List.not_mem_nil, or_false] at this
      rcases this with rfl | rfl <;> decide
    · rw [h2]
      exact ((Below.refl _ _).alloc (Nat.le_refl _) _).alloc (by simp) _
  · have HU := Lib.hid (Tryd.strings_shouldUseASCIISet (l.length : Int) w)
    have HE := Lib.hid (fun u => idxRune_err u)
    have HB := Lib.hid (fun u => idxRune_big u)
    have h8z : ¬ (8 : Int) < (l.length : Int) := by omega
    clear h8
    have hcz : (str [92, 10]).size = 2 := rfl
    have hemp : (str [92, 10]).toList.isEmpty = false := by rw [str_toList]; rfl
    go_enter Tryd.func63, Tryd.ntmps63
    go_wp2_with fail
    refine HU.out.mono ?_
    rintro e w ⟨rfl, rfl⟩
    go_wp2_with fail
    go_loopg [9, 10] l.length (fun g _ _ wx => ∃ i : Nat, i + g = l.length ∧ wx.heap[w.heap.size]? = some (.stringIter (str l) i) ∧ Below w.heap.size w wx ∧ Hid (Lib.NoAny l lxBad i))
    case atStart => exact ⟨0, by omega, World.iter_heap _ _ _, (Below.refl _ _).alloc (Nat.le_refl _) _, Lib.hid (Lib.NoAny.zero _ _)⟩
    case round =>
      obtain ⟨i, hig, hit, hbx, HN⟩ := hrel
      cases gk with
      | zero =>
        obtain rfl : i = l.length := by omega
        have hnx := fun ty => run_next_stop (P := Tryd.prog) wr w.heap.size (str l) l.length ty hit (by omega)
        go_wp2_with fail
        go_ret
        exact ⟨by rw [Lib.indexAny_none HN.out]; rfl, hbx⟩
      | succ g =>
        have hi : i < l.length := by omega
        obtain ⟨x, hx⟩ : ∃ x, l[i]? = some x := ⟨_, List.getElem?_eq_getElem hi⟩
        have hgx := get_bang l i x hx
        obtain ⟨w2, hnx, hit2, hb2⟩ := run_next_at (P := Tryd.prog) wr w.heap.size (str l) i 0 hit (by omega)
        have hb3 := hbx.trans (hb2 _ (Nat.le_refl _))
        have HX := Lib.hid hx
        have hsz3 := hb3.size
        clear hb2 hit hbx
        by_cases h128 : x.toNat < 128
        · have hdec : Utf8.decode (str l) i = (x.toNat, 1) := by
            have h := decode_ascii (str l) i (by omega) (by rw [str_get]; rw [List.getElem?_eq_getElem hi] at hx; cases hx; exact h128)
            rw [h, str_get]
            rw [List.getElem?_eq_getElem hi] at hx
            cases hx
            rfl
          rw [hdec] at hnx hit2
          clear hdec hx
          have HI := Lib.hid (Tryd.strings_IndexRune_ascii (str [92, 10]) (x.toNat : Int) w2 (by omega) (by omega))
          rw [lxBad_eq, Lib.byte_back'] at HI
          have hcon := Lib.contains_iff_indexByte lxBad x
          cases hin : lxBad.contains x
          · rw [hin] at hcon
            have hlt : ¬ ((0 : Int) ≤ Lib.indexByte lxBad x) := of_decide_eq_false hcon.symm
            clear hcon
            go_wp2_with fail
            refine HI.out.mono ?_
            rintro e w2 ⟨rfl, rfl⟩
            go_wp2_with fail
            go_roundg g
            case measure => omega
            case rel => exact ⟨i + 1, by omega, hit2, hb3, Lib.hid (HN.out.succ HX.out hin)⟩
          · rw [hin] at hcon
            have hge : (0 : Int) ≤ Lib.indexByte lxBad x := of_decide_eq_true hcon.symm
            clear hcon
            go_wp2_with fail
            refine HI.out.mono ?_
            rintro e w2 ⟨rfl, rfl⟩
            go_wp2_with fail
            go_ret
            exact ⟨by rw [Lib.indexAny_hit HN.out HX.out hin]; rfl, hb3⟩
        · have hbig := decode_big (str l) i (by omega) (by rw [hgx]; omega)
          generalize Utf8.decode (str l) i = D at *
          obtain ⟨c, n⟩ := D
          obtain ⟨hc, hv, hn, hin, hall⟩ := hbig
          simp only at hc hv hn hin hall hnx hit2
          have HN2 := Lib.hid (noAny_more (n := n) HN.out (fun k b hk hb => by
            have := hall k hk
            rw [get_bang l (i + k) b hb] at this
            exact this))
          clear hall hx
          by_cases he : c = 65533
          · subst he
            go_wp2_with fail
            refine (HE.out w2).mono ?_
            rintro e w3 ⟨rfl, hb4⟩
            have hit3 := (hb4.block w.heap.size (Array.getElem?_eq_some_iff.1 hit2).1).trans hit2
            go_wp2_with fail
            go_roundg (g - (n - 1))
            case measure => omega
            case rel => exact ⟨i + n, by omega, hit3, hb3.trans (hb4.mono hsz3), HN2⟩
          · go_wp2_with fail
            refine (HB.out w2 (c : Int) (by omega) hv (by omega)).mono ?_
            rintro e w3 ⟨rfl, hb4⟩
            have hit3 := (hb4.block w.heap.size (Array.getElem?_eq_some_iff.1 hit2).1).trans hit2
            go_wp2_with fail
            go_roundg (g - (n - 1))
            case measure => omega
            case rel => exact ⟨i + n, by omega, hit3, hb3.trans (hb4.mono hsz3), HN2⟩

theorem indexAny_pos (l : List UInt8) : decide (0 ≤ Lib.indexAny l lxBad) = decide ((92 : UInt8) ∈ l ∨ (10 : UInt8) ∈ l) := by
  induction l with
  | nil => rfl
  | cons b l ih =>
    have hge := Lib.indexAny_ge lxBad l
    rw [decide_eq_decide] at ih ⊢
    unfold Lib.indexAny
    by_cases h : lxBad.contains b = true
    · rw [if_pos h]
      unfold lxBad at h
      simp only [List.contains_cons, List.contains_nil, Bool.or_false, Bool.or_eq_true, beq_iff_eq] at h
      simp only [Int.le_refl, true_iff, List.mem_cons]
      rcases h with rfl | rfl
      · exact .inl (.inl rfl)
      · exact .inr (.inl rfl)
    · rw [if_neg h]
      have h1 : ¬ (92 : UInt8) = b := by rintro rfl; exact h (by decide)
      have h2 : ¬ (10 : UInt8) = b := by rintro rfl; exact h (by decide)
      simp only [List.mem_cons, h1, h2, false_or]
      rw [← ih]
      split
      · rename_i h3
        have : Lib.indexAny l lxBad = -1 := by simpa using h3
        omega
      · rename_i h3
        have : Lib.indexAny l lxBad ≠ -1 := by simpa using h3
        omega
set_option maxRecDepth 100000 in
/-- strings.ContainsAny at a backslash and a line feed. -/
theorem containsAny_any (w : World) (l : List UInt8) (hl : l.length < 1000000000) :
    Calls Tryd.prog 52 #[.string (str l), .string (str [92, 10])] w fun e w' => e = .returned (.bool (decide ((92 : UInt8) ∈ l ∨ (10 : UInt8) ∈ l))) ∧ Below w.heap.size w w' := by
  have HI := Lib.hid (indexAny_any w l hl)
  have hp := indexAny_pos l
  generalize Lib.indexAny l lxBad = I at *
  rw [← hp]
  clear hp
  go_enter Tryd.func52, Tryd.ntmps52
  go_wp2_with fail
  refine HI.out.mono ?_
  rintro e w1 ⟨rfl, hb⟩
  go_wp2_with fail
  go_ret
  exact ⟨rfl, hb⟩
end Go.Proofs.YtgpihhigajmldaaDoor
