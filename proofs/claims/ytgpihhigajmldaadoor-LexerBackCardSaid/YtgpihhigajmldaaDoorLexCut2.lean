/- The contract of lexer.cut: what a text begins with, and how many bytes it has. Conditions: fewer than 1000000000 bytes; the errors' variables hold what the program's text lays. -/
import Derived.Test.YtgpihhigajmldaaDoorProg
import Derived.Test.YtgpihhigajmldaaDoorLexCut
import Derived.Lib.IndexAny
namespace Go.Proofs.YtgpihhigajmldaaDoor
open Go.RowKit

theorem str_data (l : List UInt8) : (str l).data.toList = l := by simp [str]
theorem hasPrefix_two (l : List UInt8) (x y : UInt8) : Lib.hasPrefix l [x, y] = decide (l.take 2 = [x, y]) := by
  unfold Lib.hasPrefix
  rw [Bool.eq_iff_iff, List.isPrefixOf_iff_prefix, decide_eq_true_eq, List.prefix_iff_eq_take]
  exact eq_comm
theorem prefix_any (w : World) (l : List UInt8) (x y : UInt8) : Calls Tryd.prog 46 #[.string (str l), .string ⟨#[x, y]⟩] w (Ans (.bool (decide (l.take 2 = [x, y]))) w) := by
  have h := Tryd.strings_HasPrefix (str l) ⟨#[x, y]⟩ w
  rw [str_data, show (ByteArray.mk #[x, y]).data.toList = [x, y] from rfl, hasPrefix_two] at h
  exact h
theorem sign_any (w : World) (b : UInt8) : Calls Tryd.prog 50 #[.string ⟨#[123, 125, 91, 93, 60, 62, 40, 41, 59, 61, 44, 46, 45]⟩, .int .u8 (b.toNat : Int)] w fun e w' => (∃ i : Int, e = .returned (.int .i64 i) ∧ decide (0 ≤ i) = lxSign b) ∧ w' = w := by
  refine (Tryd.strings_IndexByte ⟨#[123, 125, 91, 93, 60, 62, 40, 41, 59, 61, 44, 46, 45]⟩ (b.toNat : Int) w).mono fun e w' ⟨h1, h2⟩ => ⟨⟨_, h1, ?_⟩, h2⟩
  rw [show (ByteArray.mk #[123, 125, 91, 93, 60, 62, 40, 41, 59, 61, 44, 46, 45]).data.toList = signs from rfl, Lib.byte_back', ← Lib.contains_iff_indexByte]
  rfl
/-- What cut answers. -/
def CutR (w : World) (A : Nat → Addr) (r : Nat × Nat × Nat) (e : Ending) (w' : World) : Prop :=
  e = .returned (.tuple #[.int .i64 (r.1 : Int), .int .i64 (r.2.1 : Int), errOf A r.2.2]) ∧ Below w.heap.size w w'

set_option maxRecDepth 100000 in
theorem cut_gap (w : World) (A : Nat → Addr) (m : Int) (hL : Lx w A m) (b : UInt8) (r : List UInt8) (hl : (b :: r).length < 1000000000) (hgap : lxGap b = true) :
    Calls Tryd.prog 34 #[.string (str (b :: r))] w (CutR w A (0, lspan lxGap (b :: r), 0)) := by
  have hix : ∀ u, (Instr.index 9 (.string (str (b :: r))) (.int .i64 0)).run Tryd.prog u = .ok (.int .u8 (b.toNat : Int)) u := str_index (b :: r) 0 (by simp)
  have Hgap := Lib.hid (isGap_any w b)
  rw [hgap] at Hgap
  clear hgap
  go_enter Tryd.func34, Tryd.ntmps34
  go_wp2_with fail
  refine Hgap.out.mono ?_
  rintro e w ⟨rfl, rfl⟩
  go_wp2_with fail
  refine (span_gap w (b :: r) (by omega)).mono ?_
  rintro e w' ⟨rfl, n, rfl⟩
  go_wp2_with fail
  go_ret3
  exact ⟨rfl, below_drewN (Below.refl _ _) _⟩

set_option maxRecDepth 100000 in
theorem cut_sl (w : World) (A : Nat → Addr) (m : Int) (hL : Lx w A m) (b : UInt8) (r : List UInt8) (hl : (b :: r).length < 1000000000) (hgap : lxGap b = false) (hsl : decide ((b :: r).take 2 = [47, 47]) = true) :
    Calls Tryd.prog 34 #[.string (str (b :: r))] w (CutR w A (0, lspan noLF (b :: r), 0)) := by
  have hix : ∀ u, (Instr.index 9 (.string (str (b :: r))) (.int .i64 0)).run Tryd.prog u = .ok (.int .u8 (b.toNat : Int)) u := str_index (b :: r) 0 (by simp)
  have Hgap := Lib.hid (isGap_any w b)
  rw [hgap] at Hgap
  have Hsl := Lib.hid (prefix_any w (b :: r) 47 47)
  rw [hsl] at Hsl
  have hmf := run_makeFunc
  clear hgap
  clear hsl
  go_enter Tryd.func34, Tryd.ntmps34
  go_wp2_with fail
  refine Hgap.out.mono ?_
  rintro e w ⟨rfl, rfl⟩
  go_wp2_with fail
  refine Hsl.out.mono ?_
  rintro e w ⟨rfl, rfl⟩
  go_wp2_with fail
  refine (otherThan_any w 10).mono ?_
  rintro e w' ⟨rfl, hw⟩
  have hb1 : Below w.heap.size w w' := hw ▸ (Below.refl _ _).alloc (Nat.le_refl _) _
  have hc : w'.cell? ⟨w.heap.size, 0, none⟩ = some (.int .u8 10) := by rw [hw]; exact (Blk.new w 5 [.int .u8 10]).cell 0
  clear hw
  go_wp2_with fail
  refine (span_other w' (b :: r) _ (by omega) hc).mono ?_
  rintro e w2 ⟨rfl, n, rfl⟩
  go_wp2_with fail
  go_ret3
  exact ⟨rfl, below_drewN hb1 _⟩

set_option maxRecDepth 100000 in
theorem cut_st (w : World) (A : Nat → Addr) (m : Int) (hL : Lx w A m) (b : UInt8) (r : List UInt8) (hl : (b :: r).length < 1000000000) (hgap : lxGap b = false) (hsl : decide ((b :: r).take 2 = [47, 47]) = false) (hst : decide ((b :: r).take 2 = [47, 42]) = true) :
    Calls Tryd.prog 34 #[.string (str (b :: r))] w (CutR w A (0, lclosed 2 [42, 47] (b :: r))) := by
  have hix : ∀ u, (Instr.index 9 (.string (str (b :: r))) (.int .i64 0)).run Tryd.prog u = .ok (.int .u8 (b.toNat : Int)) u := str_index (b :: r) 0 (by simp)
  have Hgap := Lib.hid (isGap_any w b)
  rw [hgap] at Hgap
  have Hsl := Lib.hid (prefix_any w (b :: r) 47 47)
  rw [hsl] at Hsl
  have Hst := Lib.hid (prefix_any w (b :: r) 47 42)
  rw [hst] at Hst
  have htwo : 2 ≤ (b :: r).length := by
    have h := congrArg List.length (of_decide_eq_true hst)
    rw [List.length_take] at h
    simp only [List.length_cons, List.length_nil] at h ⊢
    omega
  have HC := Lib.hid (closed_any w A m hL (b :: r) [47, 42] [42, 47] hl htwo (by simp))
  rw [show ([47, 42] : List UInt8).length = 2 from rfl] at HC
  clear htwo
  clear hgap
  clear hsl
  clear hst
  go_enter Tryd.func34, Tryd.ntmps34
  go_wp2_with fail
  refine Hgap.out.mono ?_
  rintro e w ⟨rfl, rfl⟩
  go_wp2_with fail
  refine Hsl.out.mono ?_
  rintro e w ⟨rfl, rfl⟩
  go_wp2_with fail
  refine Hst.out.mono ?_
  rintro e w ⟨rfl, rfl⟩
  go_wp2_with fail
  refine HC.out.mono ?_
  rintro e w' ⟨rfl, n, rfl⟩
  go_wp2_with fail
  go_ret3
  exact ⟨rfl, below_drewN (Below.refl _ _) _⟩

set_option maxRecDepth 100000 in
theorem cut_wd (w : World) (A : Nat → Addr) (m : Int) (hL : Lx w A m) (b : UInt8) (r : List UInt8) (hl : (b :: r).length < 1000000000) (hgap : lxGap b = false) (hsl : decide ((b :: r).take 2 = [47, 47]) = false) (hst : decide ((b :: r).take 2 = [47, 42]) = false) (hwd : lxLet b = true) :
    Calls Tryd.prog 34 #[.string (str (b :: r))] w (CutR w A (1, lspan lxIn (b :: r), 0)) := by
  have hix : ∀ u, (Instr.index 9 (.string (str (b :: r))) (.int .i64 0)).run Tryd.prog u = .ok (.int .u8 (b.toNat : Int)) u := str_index (b :: r) 0 (by simp)
  have Hgap := Lib.hid (isGap_any w b)
  rw [hgap] at Hgap
  have Hsl := Lib.hid (prefix_any w (b :: r) 47 47)
  rw [hsl] at Hsl
  have Hst := Lib.hid (prefix_any w (b :: r) 47 42)
  rw [hst] at Hst
  have Hwd := Lib.hid (beginsWord_any w b)
  rw [hwd] at Hwd
  clear hgap
  clear hsl
  clear hst
  clear hwd
  go_enter Tryd.func34, Tryd.ntmps34
  go_wp2_with fail
  refine Hgap.out.mono ?_
  rintro e w ⟨rfl, rfl⟩
  go_wp2_with fail
  refine Hsl.out.mono ?_
  rintro e w ⟨rfl, rfl⟩
  go_wp2_with fail
  refine Hst.out.mono ?_
  rintro e w ⟨rfl, rfl⟩
  go_wp2_with fail
  refine Hwd.out.mono ?_
  rintro e w ⟨rfl, rfl⟩
  go_wp2_with fail
  refine (span_in w (b :: r) (by omega)).mono ?_
  rintro e w' ⟨rfl, n, rfl⟩
  go_wp2_with fail
  go_ret3
  exact ⟨rfl, below_drewN (Below.refl _ _) _⟩

set_option maxRecDepth 100000 in
theorem cut_fg (w : World) (A : Nat → Addr) (m : Int) (hL : Lx w A m) (b : UInt8) (r : List UInt8) (hl : (b :: r).length < 1000000000) (hgap : lxGap b = false) (hsl : decide ((b :: r).take 2 = [47, 47]) = false) (hst : decide ((b :: r).take 2 = [47, 42]) = false) (hwd : lxLet b = false) (hfg : lxFig b = true) :
    Calls Tryd.prog 34 #[.string (str (b :: r))] w (CutR w A (2, lspan lxIn (b :: r), 0)) := by
  have hix : ∀ u, (Instr.index 9 (.string (str (b :: r))) (.int .i64 0)).run Tryd.prog u = .ok (.int .u8 (b.toNat : Int)) u := str_index (b :: r) 0 (by simp)
  have Hgap := Lib.hid (isGap_any w b)
  rw [hgap] at Hgap
  have Hsl := Lib.hid (prefix_any w (b :: r) 47 47)
  rw [hsl] at Hsl
  have Hst := Lib.hid (prefix_any w (b :: r) 47 42)
  rw [hst] at Hst
  have Hwd := Lib.hid (beginsWord_any w b)
  rw [hwd] at Hwd
  have Hfg := Lib.hid (isFigure_any w b)
  rw [hfg] at Hfg
  clear hgap
  clear hsl
  clear hst
  clear hwd
  clear hfg
  go_enter Tryd.func34, Tryd.ntmps34
  go_wp2_with fail
  refine Hgap.out.mono ?_
  rintro e w ⟨rfl, rfl⟩
  go_wp2_with fail
  refine Hsl.out.mono ?_
  rintro e w ⟨rfl, rfl⟩
  go_wp2_with fail
  refine Hst.out.mono ?_
  rintro e w ⟨rfl, rfl⟩
  go_wp2_with fail
  refine Hwd.out.mono ?_
  rintro e w ⟨rfl, rfl⟩
  go_wp2_with fail
  refine Hfg.out.mono ?_
  rintro e w ⟨rfl, rfl⟩
  go_wp2_with fail
  refine (span_in w (b :: r) (by omega)).mono ?_
  rintro e w' ⟨rfl, n, rfl⟩
  go_wp2_with fail
  go_ret3
  exact ⟨rfl, below_drewN (Below.refl _ _) _⟩

set_option maxRecDepth 100000 in
theorem cut_qt (w : World) (A : Nat → Addr) (m : Int) (hL : Lx w A m) (b : UInt8) (r : List UInt8) (hl : (b :: r).length < 1000000000) (hgap : lxGap b = false) (hsl : decide ((b :: r).take 2 = [47, 47]) = false) (hst : decide ((b :: r).take 2 = [47, 42]) = false) (hwd : lxLet b = false) (hfg : lxFig b = false) (hqt : lxQuote b = true) :
    Calls Tryd.prog 34 #[.string (str (b :: r))] w (CutR w A (3, lclosed 1 [b] (b :: r))) := by
  have hix : ∀ u, (Instr.index 9 (.string (str (b :: r))) (.int .i64 0)).run Tryd.prog u = .ok (.int .u8 (b.toNat : Int)) u := str_index (b :: r) 0 (by simp)
  have Hgap := Lib.hid (isGap_any w b)
  rw [hgap] at Hgap
  have Hsl := Lib.hid (prefix_any w (b :: r) 47 47)
  rw [hsl] at Hsl
  have Hst := Lib.hid (prefix_any w (b :: r) 47 42)
  rw [hst] at Hst
  have Hwd := Lib.hid (beginsWord_any w b)
  rw [hwd] at Hwd
  have Hfg := Lib.hid (isFigure_any w b)
  rw [hfg] at Hfg
  have Hqt := Lib.hid (isQuote_any w b)
  rw [hqt] at Hqt
  have hup : ∀ u, (Instr.slice 9 (.string (str (b :: r))) none (some (.int .i64 1)) none).run Tryd.prog u = .ok (.string (str [b])) u := str_upto (b :: r) 1 (by simp)
  have HC := Lib.hid (fun n => by have h := closed_any (w.drewN n) A m (hL.drewN n) (b :: r) [b] [b] hl (by simp) (by simp); rw [show ([b] : List UInt8).length = 1 from rfl] at h; exact h)
  clear hgap
  clear hsl
  clear hst
  clear hwd
  clear hfg
  clear hqt
  go_enter Tryd.func34, Tryd.ntmps34
  go_wp2_with fail
  refine Hgap.out.mono ?_
  rintro e w ⟨rfl, rfl⟩
  go_wp2_with fail
  refine Hsl.out.mono ?_
  rintro e w ⟨rfl, rfl⟩
  go_wp2_with fail
  refine Hst.out.mono ?_
  rintro e w ⟨rfl, rfl⟩
  go_wp2_with fail
  refine Hwd.out.mono ?_
  rintro e w ⟨rfl, rfl⟩
  go_wp2_with fail
  refine Hfg.out.mono ?_
  rintro e w ⟨rfl, rfl⟩
  go_wp2_with fail
  refine Hqt.out.mono ?_
  rintro e w ⟨rfl, rfl⟩
  go_wp2_with fail
  go_quiet (refine Calls.quiet_of (HC.out _))
  go_wp2_with fail
  go_ret3
  exact ⟨rfl, below_drewN (Below.refl _ _) _⟩

set_option maxRecDepth 100000 in
theorem cut_sg (w : World) (A : Nat → Addr) (m : Int) (hL : Lx w A m) (b : UInt8) (r : List UInt8) (_hl : (b :: r).length < 1000000000) (hgap : lxGap b = false) (hsl : decide ((b :: r).take 2 = [47, 47]) = false) (hst : decide ((b :: r).take 2 = [47, 42]) = false) (hwd : lxLet b = false) (hfg : lxFig b = false) (hqt : lxQuote b = false) (hsg : lxSign b = true) :
    Calls Tryd.prog 34 #[.string (str (b :: r))] w (CutR w A (4, 1, 0)) := by
  have hix : ∀ u, (Instr.index 9 (.string (str (b :: r))) (.int .i64 0)).run Tryd.prog u = .ok (.int .u8 (b.toNat : Int)) u := str_index (b :: r) 0 (by simp)
  have Hgap := Lib.hid (isGap_any w b)
  rw [hgap] at Hgap
  have Hsl := Lib.hid (prefix_any w (b :: r) 47 47)
  rw [hsl] at Hsl
  have Hst := Lib.hid (prefix_any w (b :: r) 47 42)
  rw [hst] at Hst
  have Hwd := Lib.hid (beginsWord_any w b)
  rw [hwd] at Hwd
  have Hfg := Lib.hid (isFigure_any w b)
  rw [hfg] at Hfg
  have Hqt := Lib.hid (isQuote_any w b)
  rw [hqt] at Hqt
  have Hsg := Lib.hid (sign_any w b)
  rw [hsg] at Hsg
  clear hgap
  clear hsl
  clear hst
  clear hwd
  clear hfg
  clear hqt
  clear hsg
  go_enter Tryd.func34, Tryd.ntmps34
  go_wp2_with fail
  refine Hgap.out.mono ?_
  rintro e w ⟨rfl, rfl⟩
  go_wp2_with fail
  refine Hsl.out.mono ?_
  rintro e w ⟨rfl, rfl⟩
  go_wp2_with fail
  refine Hst.out.mono ?_
  rintro e w ⟨rfl, rfl⟩
  go_wp2_with fail
  refine Hwd.out.mono ?_
  rintro e w ⟨rfl, rfl⟩
  go_wp2_with fail
  refine Hfg.out.mono ?_
  rintro e w ⟨rfl, rfl⟩
  go_wp2_with fail
  refine Hqt.out.mono ?_
  rintro e w ⟨rfl, rfl⟩
  go_wp2_with fail
  refine Hsg.out.mono ?_
  rintro e w ⟨⟨i, rfl, hi⟩, rfl⟩
  replace hi : 0 ≤ i := of_decide_eq_true hi
  go_wp2_with fail
  go_ret3
  exact ⟨rfl, Below.refl _ _⟩

set_option maxRecDepth 100000 in
theorem cut_bad (w : World) (A : Nat → Addr) (m : Int) (hL : Lx w A m) (b : UInt8) (r : List UInt8) (_hl : (b :: r).length < 1000000000) (hgap : lxGap b = false) (hsl : decide ((b :: r).take 2 = [47, 47]) = false) (hst : decide ((b :: r).take 2 = [47, 42]) = false) (hwd : lxLet b = false) (hfg : lxFig b = false) (hqt : lxQuote b = false) (hsg : lxSign b = false) :
    Calls Tryd.prog 34 #[.string (str (b :: r))] w (CutR w A (0, 0, 9)) := by
  have hix : ∀ u, (Instr.index 9 (.string (str (b :: r))) (.int .i64 0)).run Tryd.prog u = .ok (.int .u8 (b.toNat : Int)) u := str_index (b :: r) 0 (by simp)
  have Hgap := Lib.hid (isGap_any w b)
  rw [hgap] at Hgap
  have Hsl := Lib.hid (prefix_any w (b :: r) 47 47)
  rw [hsl] at Hsl
  have Hst := Lib.hid (prefix_any w (b :: r) 47 42)
  rw [hst] at Hst
  have Hwd := Lib.hid (beginsWord_any w b)
  rw [hwd] at Hwd
  have Hfg := Lib.hid (isFigure_any w b)
  rw [hfg] at Hfg
  have Hqt := Lib.hid (isQuote_any w b)
  rw [hqt] at Hqt
  have Hsg := Lib.hid (sign_any w b)
  rw [hsg] at Hsg
  have hform := hL.form
  clear hgap
  clear hsl
  clear hst
  clear hwd
  clear hfg
  clear hqt
  clear hsg
  go_enter Tryd.func34, Tryd.ntmps34
  go_wp2_with fail
  refine Hgap.out.mono ?_
  rintro e w ⟨rfl, rfl⟩
  go_wp2_with fail
  refine Hsl.out.mono ?_
  rintro e w ⟨rfl, rfl⟩
  go_wp2_with fail
  refine Hst.out.mono ?_
  rintro e w ⟨rfl, rfl⟩
  go_wp2_with fail
  refine Hwd.out.mono ?_
  rintro e w ⟨rfl, rfl⟩
  go_wp2_with fail
  refine Hfg.out.mono ?_
  rintro e w ⟨rfl, rfl⟩
  go_wp2_with fail
  refine Hqt.out.mono ?_
  rintro e w ⟨rfl, rfl⟩
  go_wp2_with fail
  refine Hsg.out.mono ?_
  rintro e w ⟨⟨i, rfl, hi⟩, rfl⟩
  replace hi : ¬ 0 ≤ i := of_decide_eq_false hi
  go_wp2_with fail
  go_quiet (fail)
  go_wp2_with fail
  go_ret3
  exact ⟨rfl, below_drewN (Below.refl _ _) _⟩

theorem cut_any (w : World) (A : Nat → Addr) (m : Int) (hL : Lx w A m) (l : List UInt8) (h0 : 0 < l.length) (hl : l.length < 1000000000) :
    Calls Tryd.prog 34 #[.string (str l)] w (CutR w A (lcut l)) := by
  obtain ⟨b, r, rfl⟩ : ∃ b r, l = b :: r := by
    cases l with
    | nil => simp at h0
    | cons b r => exact ⟨b, r, rfl⟩
  unfold lcut
  rw [List.headD_cons]
  by_cases pgap : lxGap b = true
  · rw [if_pos pgap]
    exact cut_gap w A m hL b r hl  pgap
  rw [if_neg pgap]
  have hgap : lxGap b = false := by simpa using pgap
  by_cases psl : (b :: r).take 2 = [47, 47]
  · rw [if_pos psl]
    exact cut_sl w A m hL b r hl hgap (decide_eq_true psl)
  rw [if_neg psl]
  have hsl := decide_eq_false psl
  by_cases pst : (b :: r).take 2 = [47, 42]
  · rw [if_pos pst]
    exact cut_st w A m hL b r hl hgap hsl (decide_eq_true pst)
  rw [if_neg pst]
  have hst := decide_eq_false pst
  by_cases pwd : lxLet b = true
  · rw [if_pos pwd]
    exact cut_wd w A m hL b r hl hgap hsl hst pwd
  rw [if_neg pwd]
  have hwd : lxLet b = false := by simpa using pwd
  by_cases pfg : lxFig b = true
  · rw [if_pos pfg]
    exact cut_fg w A m hL b r hl hgap hsl hst hwd pfg
  rw [if_neg pfg]
  have hfg : lxFig b = false := by simpa using pfg
  by_cases pqt : lxQuote b = true
  · rw [if_pos pqt]
    exact cut_qt w A m hL b r hl hgap hsl hst hwd hfg pqt
  rw [if_neg pqt]
  have hqt : lxQuote b = false := by simpa using pqt
  by_cases psg : lxSign b = true
  · rw [if_pos psg]
    exact cut_sg w A m hL b r hl hgap hsl hst hwd hfg hqt psg
  rw [if_neg psg]
  have hsg : lxSign b = false := by simpa using psg
  exact cut_bad w A m hL b r hl hgap hsl hst hwd hfg hqt hsg
end Go.Proofs.YtgpihhigajmldaaDoor
