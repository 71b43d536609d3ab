/- The contracts of redlinenum.Figures and of a fault's Error: a number's figures, and the text of a fault. Condition: the library's table of powers of ten is as it lays it. -/
import Derived.Test.YtgpihhigajmldaaDoorProg
import Derived.Test.YtgpihhigajmldaaDoorMem
import Derived.Test.YtgpihhigajmldaaDoorText
import Derived.Test.YtgpihhigajmldaaDoorShelf
import Derived.Test.YtgpihhigajmldaaDoorGrow
import Derived.Lib.ItoaMem
import Derived.Deep.LoopGhost
namespace Go.Proofs.YtgpihhigajmldaaDoor
open Go.RowKit

def figs (r : Nat) : List UInt8 := if r = 0 then [] else Lib.decDigits r
theorem figs_zero : figs 0 = [] := rfl
theorem figs_step {r : Nat} (h : r ≠ 0) : figs r = figs (r / 10) ++ [UInt8.ofNat (48 + r % 10)] := by
  unfold figs
  rw [if_neg h]
  by_cases h1 : r < 10
  · rw [if_pos (by omega), Lib.decDigits_one h1, Nat.mod_eq_of_lt h1]; rfl
  · rw [if_neg (by omega), Lib.decDigits, dif_neg h1]
theorem oneByte (w : World) (c : UInt8) : (convert 58 9 (.slice (some ⟨w.heap.size, 0, none⟩) 1 1)).run Tryd.prog (w.alloc (.cells #[.int .u8 (c.toNat : Int)] 5)) = .ok (.string (str [c])) (w.alloc (.cells #[.int .u8 (c.toNat : Int)] 5)) :=
  Sl.string (l := [c]) (w := w.alloc (.cells #[.int .u8 (c.toNat : Int)] 5)) (B := w.heap.size + 1) (Sl.of_blk (Blk.new w 5 [.int .u8 (c.toNat : Int)]) (by omega) fun i x hx => by
    match i, hx with
    | 0, hx => simp at hx; subst hx; rfl) 1

set_option maxRecDepth 100000 in
set_option maxHeartbeats 1000000 in
theorem figures_pos (w : World) (u : Nat) (h0 : 0 < u) (h1 : u ≤ 9223372036854775807) :
    Calls Tryd.prog 15 #[.int .i64 (u : Int)] w fun e w' => e = .returned (.string (str (Lib.decDigits u))) ∧ Below w.heap.size w w' := by
  have hF : figs u = Lib.decDigits u := if_neg (by omega)
  obtain ⟨z, hz⟩ : ∃ z : Int, z = (u : Int) := ⟨_, rfl⟩
  rw [← hz]
  have hz1 : ¬ z = 0 := by omega
  have hz2 : (z == 0) = false := by simp; omega
  have hz3 : ¬ z < 0 := by omega
  have HZ := Lib.hid hz
  clear hz
  have HF := Lib.hid hF
  clear hF
  go_enter Tryd.func15, Tryd.ntmps15
  go_wp2_with fail
  go_loopg [0, 3] u (fun r n s wx => ∃ t : List UInt8, r ≤ u ∧ n = .int .i64 (r : Int) ∧ s = .string (str t) ∧ t.length + r ≤ u ∧ Hid (Lib.decDigits u = figs r ++ t) ∧ Below w.heap.size w wx)
  case atStart => exact ⟨[], Nat.le_refl _, by rw [HZ.out], rfl, by simp, Lib.hid (by rw [HF.out, List.append_nil]), Below.refl _ _⟩
  case round =>
    obtain ⟨t, hru, rfl, rfl, htl, HT, hb⟩ := hrel
    by_cases hr : gk = 0
    · subst hr
      go_wp2_with fail
      go_ret
      exact ⟨by rw [HT.out]; rfl, hb⟩
    · obtain ⟨y, hy⟩ : ∃ y : Int, y = (gk : Int) := ⟨_, rfl⟩
      rw [← hy]
      have hy1 : ¬ y = 0 := by omega
      have hy2 : (y == 0) = false := by simp; omega
      obtain ⟨d, hd⟩ : ∃ d : Int, d = ((gk % 10 : Nat) : Int) := ⟨_, rfl⟩
      obtain ⟨q, hq⟩ : ∃ q : Int, q = ((gk / 10 : Nat) : Int) := ⟨_, rfl⟩
      have hm : y.tmod 10 = d := by rw [Int.tmod_eq_emod_of_nonneg (by omega)]; omega
      have hq' : y.tdiv 10 = q := by rw [Int.tdiv_eq_ediv_of_nonneg (by omega)]; omega
      have hd0 : ¬ d < 0 := by omega
      have hwd : IntKind.i64.wrap d = d := IntWalk.i64_in d (by omega)
      have hwq : IntKind.i64.wrap q = q := IntWalk.i64_in q (by omega)
      have hws : IntKind.i64.wrap (48 + d) = 48 + d := IntWalk.i64_in _ (by omega)
      obtain ⟨c, hc⟩ : ∃ c : UInt8, c = UInt8.ofNat (48 + gk % 10) := ⟨_, rfl⟩
      have hwc : IntKind.u8.wrap (48 + d) = (c.toNat : Int) := by
        rw [hc, IntKind.wrap_u8, UInt8.toNat_ofNat']
        omega
      have hstep := figs_step hr
      rw [← hc] at hstep
      have hsz : (str [c]).size = 1 := by rw [strSize]; rfl
      have hsz2 : (str t).size ≤ 9223372036854775807 - 1 := by rw [strSize]; omega
      have hap : str [c] ++ str t = str (c :: t) := by rw [str_append]; rfl
      have hone := oneByte wr c
      have HC := Lib.hid hc
      have HST := Lib.hid hstep
      have HY := Lib.hid hy
      have HQ := Lib.hid hq
      clear hc hstep hy hq hd
      go_wp2_with fail
      go_roundg (gk / 10)
      case measure => omega
      case rel => exact ⟨c :: t, by omega, by rw [HQ.out], rfl, by rw [List.length_cons]; omega, Lib.hid (by rw [HT.out, HST.out]; simp), hb.alloc hb.size _⟩
set_option maxRecDepth 100000 in
set_option maxHeartbeats 1000000 in
theorem figures_neg (w : World) (u : Nat) (h0 : 0 < u) (h1 : u ≤ 9223372036854775808) :
    Calls Tryd.prog 15 #[.int .i64 (-(u : Int))] w fun e w' => e = .returned (.string (str (45 :: Lib.decDigits u))) ∧ Below w.heap.size w w' := by
  have hF : figs u = Lib.decDigits u := if_neg (by omega)
  obtain ⟨z, hz⟩ : ∃ z : Int, z = -(u : Int) := ⟨_, rfl⟩
  rw [← hz]
  have hz1 : ¬ z = 0 := by omega
  have hz2 : (z == 0) = false := by simp; omega
  have hz3 : z < 0 := by omega
  have h20 : Lib.nDigits u ≤ 20 := by
    have := Lib.numDigits_eq u (by omega) (by omega)
    split at this <;> omega
  have HZ := Lib.hid hz
  clear hz
  have HF := Lib.hid hF
  clear hF
  go_enter Tryd.func15, Tryd.ntmps15
  go_wp2_with fail
  go_loopg [0, 3] u (fun r n s wx => ∃ t : List UInt8, r ≤ u ∧ n = .int .i64 (-(r : Int)) ∧ s = .string (str t) ∧ Hid (Lib.decDigits u = figs r ++ t) ∧ Below w.heap.size w wx)
  case atStart => exact ⟨[], Nat.le_refl _, by rw [HZ.out], rfl, Lib.hid (by rw [HF.out, List.append_nil]), Below.refl _ _⟩
  case round =>
    obtain ⟨t, hru, rfl, rfl, HT, hb⟩ := hrel
    have ht20 : t.length ≤ 20 := by
      have := congrArg List.length HT.out
      rw [Lib.decDigits_length, List.length_append] at this
      omega
    by_cases hr : gk = 0
    · subst hr
      have hsz3 : (str [45]).size = 1 := by rw [strSize]; rfl
      have hsz4 : (str t).size ≤ 20 := by rw [strSize]; omega
      have hap2 : str [45] ++ str t = str (45 :: t) := by rw [str_append]; rfl
      go_wp2_with fail
      go_ret
      exact ⟨by rw [HT.out]; rfl, hb⟩
    · obtain ⟨y, hy⟩ : ∃ y : Int, y = -(gk : Int) := ⟨_, rfl⟩
      rw [← hy]
      have hy1 : ¬ y = 0 := by omega
      have hy2 : (y == 0) = false := by simp; omega
      obtain ⟨d, hd⟩ : ∃ d : Int, d = -((gk % 10 : Nat) : Int) := ⟨_, rfl⟩
      obtain ⟨q, hq⟩ : ∃ q : Int, q = -((gk / 10 : Nat) : Int) := ⟨_, rfl⟩
      have hm : y.tmod 10 = d := by rw [show y = -(gk : Int) from hy, Int.neg_tmod, Int.tmod_eq_emod_of_nonneg (by omega)]; omega
      have hq' : y.tdiv 10 = q := by rw [show y = -(gk : Int) from hy, Int.neg_tdiv, Int.tdiv_eq_ediv_of_nonneg (by omega)]; omega
      have hwd : IntKind.i64.wrap d = d := IntWalk.i64_in d (by omega)
      have hwn : IntKind.i64.wrap (-d) = -d := IntWalk.i64_in _ (by omega)
      have hwq : IntKind.i64.wrap q = q := IntWalk.i64_in q (by omega)
      have hws : IntKind.i64.wrap (48 + -d) = 48 + -d := IntWalk.i64_in _ (by omega)
      obtain ⟨c, hc⟩ : ∃ c : UInt8, c = UInt8.ofNat (48 + gk % 10) := ⟨_, rfl⟩
      have hwc : IntKind.u8.wrap (48 + -d) = (c.toNat : Int) := by
        rw [hc, IntKind.wrap_u8, UInt8.toNat_ofNat']
        omega
      have hstep := figs_step hr
      rw [← hc] at hstep
      have hsz : (str [c]).size = 1 := by rw [strSize]; rfl
      have hsz2 : (str t).size ≤ 20 := by rw [strSize]; omega
      have hap : str [c] ++ str t = str (c :: t) := by rw [str_append]; rfl
      have hone := oneByte wr c
      have HC := Lib.hid hc
      have HST := Lib.hid hstep
      have HY := Lib.hid hy
      have HQ := Lib.hid hq
      clear hc hstep hy hq
      by_cases hd0 : d < 0
      · clear hd
        go_wp2_with fail
        go_roundg (gk / 10)
        case measure => omega
        case rel => exact ⟨c :: t, by omega, by rw [HQ.out], rfl, Lib.hid (by rw [HT.out, HST.out]; simp), hb.alloc hb.size _⟩
      · have hde : d = 0 := by omega
        subst hde
        clear hd
        have hwc' : IntKind.u8.wrap 48 = (c.toNat : Int) := hwc
        go_wp2_with fail
        go_roundg (gk / 10)
        case measure => omega
        case rel => exact ⟨c :: t, by omega, by rw [HQ.out], rfl, Lib.hid (by rw [HT.out, HST.out]; simp), hb.alloc hb.size _⟩

set_option maxRecDepth 100000 in
theorem figures_any (w : World) (n : Int) (h0 : -9223372036854775808 ≤ n) (h1 : n ≤ 9223372036854775807) :
    Calls Tryd.prog 15 #[.int .i64 n] w fun e w' => e = .returned (.string (str (Lib.itoa n))) ∧ Below w.heap.size w w' := by
  rcases Int.lt_trichotomy n 0 with h | h | h
  · obtain ⟨u, rfl⟩ : ∃ u : Nat, n = -(u : Int) := ⟨n.natAbs, by omega⟩
    rw [Lib.itoa_neg u (by omega)]
    exact figures_neg w u (by omega) (by omega)
  · subst h
    have e : Lib.itoa 0 = [48] := by
      have := Lib.itoa_nonneg 0
      rw [Lib.decDigits_one (by decide)] at this
      exact this
    rw [e]
    go_enter Tryd.func15, Tryd.ntmps15
    go_wp2_with fail
    go_ret
    exact ⟨rfl, Below.refl _ _⟩
  · obtain ⟨u, rfl⟩ : ∃ u : Nat, n = (u : Int) := ⟨n.toNat, by omega⟩
    rw [Lib.itoa_nonneg]
    exact figures_pos w u (by omega) (by omega)

theorem tab_below {w w' : World} {n : String} {k : IntKind} {zs : List Int} (h : Lib.TabIs Tryd.prog w n k zs) (hb : Below w.heap.size w w') : Lib.TabIs Tryd.prog w' n k zs := by
  unfold Lib.TabIs World.var? at *
  cases hg : Tryd.prog.globalNamed n with
  | none => simp [hg] at h
  | some g =>
    simp only [hg, Option.bind_some] at h ⊢
    have hlt : g < w.heap.size := by
      rcases Nat.lt_or_ge g w.heap.size with h' | h'
      · exact h'
      · rw [Array.getElem?_eq_none h'] at h; simp at h
    rw [hb.block g hlt]
    exact h
theorem grow_below (w : World) (k : Nat) (os : Array Obj) : Below w.heap.size w (Go.Sort.grow (w.drewN k) os) := ⟨rfl, rfl, rfl, by simp [Go.Sort.grow], fun g hg => by
  show (w.heap ++ os)[g]? = w.heap[g]?
  rw [Array.getElem?_append_left hg]⟩
theorem itoa_any (w : World) (n : Int) (h0 : -9223372036854775808 ≤ n) (h1 : n ≤ 9223372036854775807) (hT : Lib.TabIs Tryd.prog w "internal/strconv.uint64pow10" .u64 Lib.pow10Tab) :
    Calls Tryd.prog 32 #[.int .i64 n] w fun e w' => e = .returned (.string (str (Lib.itoa n))) ∧ Below w.heap.size w w' :=
  (Tryd.strconv_Itoa n h0 h1 w hT).mono fun _ _ ⟨he, k, os, hw⟩ => ⟨he, hw ▸ grow_below w k os⟩
theorem itoa_len (n : Int) (h0 : -9223372036854775808 ≤ n) (h1 : n ≤ 9223372036854775807) : (Lib.itoa n).length ≤ 21 := by
  have h20 : ∀ u : Nat, u ≤ 9223372036854775808 → Lib.nDigits u ≤ 20 := fun u hu => by
    rcases Nat.eq_zero_or_pos u with h | h
    · subst h; rw [Lib.nDigits_small (by decide)]; decide
    · have := Lib.numDigits_eq u (by omega) (by omega)
      split at this <;> omega
  unfold Lib.itoa
  split
  · rw [List.length_cons, Lib.decDigits_length]
    have := h20 n.natAbs (by omega)
    omega
  · rw [Lib.decDigits_length]
    have := h20 n.toNat (by omega)
    omega
set_option maxRecDepth 100000 in
set_option maxHeartbeats 1000000 in
theorem error_any (w : World) (b : Nat) (li co : Int) (v : Value) (hk : Blk w b 40 [.int .i64 li, .int .i64 co, v]) (hl0 : -9223372036854775808 ≤ li) (hl1 : li ≤ 9223372036854775807) (hc0 : -9223372036854775808 ≤ co) (hc1 : co ≤ 9223372036854775807) (hT : Lib.TabIs Tryd.prog w "internal/strconv.uint64pow10" .u64 Lib.pow10Tab) :
    Calls Tryd.prog 14 #[.pointer (some ⟨b, 0, none⟩)] w fun e w' => e = .returned (.string (str (Lib.itoa li ++ [58] ++ Lib.itoa co))) ∧ Below w.heap.size w w' := by
  have z1 : (str (Lib.itoa li)).size ≤ 21 := by rw [strSize]; exact itoa_len li hl0 hl1
  have z2 : (str (Lib.itoa co)).size ≤ 21 := by rw [strSize]; exact itoa_len co hc0 hc1
  have z3 : (str (Lib.itoa li ++ [58])).size ≤ 22 := by rw [strSize, List.length_append]; have := itoa_len li hl0 hl1; simp; omega
  have z4 : (str [58]).size = 1 := by rw [strSize]; rfl
  go_enter Tryd.func14, Tryd.ntmps14
  go_wp2_with fail
  refine wp_region_grow (Below w.heap.size w) (fun u u' => Below u.heap.size u u') (.is (.pointer (some ⟨b, 0, none⟩)) :: .is (.pointer (some ⟨b, 0, none⟩)) :: .is (.pointer (some ⟨b, 0, none⟩)) :: .is (.int .i64 li) :: .is (.string (str (Lib.itoa li))) :: .is (.string (str (Lib.itoa li ++ [58]))) :: .is (.pointer (some ⟨b, 0, none⟩)) :: .is (.pointer (some ⟨b, 0, none⟩)) :: .is (.pointer (some ⟨b, 1, none⟩)) :: .is (.int .i64 co) :: .is (.string (str (Lib.itoa co))) :: .is (.string (str (Lib.itoa li ++ [58] ++ Lib.itoa co))) :: .is (.string (str (Lib.itoa li ++ [58] ++ Lib.itoa co))) :: []) (by kernel_rfl) (by kernel_rfl) (fun u u' h hC => hC.trans (h.mono hC.size)) (by repeat (first | exact trivial | refine ⟨by first | exact stay_is | exact stay_holds _, ?_⟩)) ((Below.refl _ _).drew) ?h
  case h =>
    refine wpT_is (fun _ => Below.refl _ _) rfl (fun wx hC hS => by go_simp <;> first | rfl | omega) ?_
    simp only [Act.put, List.setIfInBounds_toArray, List.set_cons_zero, List.set_cons_succ]
    refine wpT_is (fun _ => Below.refl _ _) rfl (fun wx hC hS => by go_simp <;> first | rfl | omega) ?_
    simp only [Act.put, List.setIfInBounds_toArray, List.set_cons_zero, List.set_cons_succ]
    refine wpT_is (fun _ => Below.refl _ _) rfl (fun wx hC hS => by go_simp <;> first | rfl | omega) ?_
    simp only [Act.put, List.setIfInBounds_toArray, List.set_cons_zero, List.set_cons_succ]
    refine wpT_is (fun _ => Below.refl _ _) rfl (fun wx hC hS => by have c0 : wx.cell? ⟨b, 0, none⟩ = some (.int .i64 li) := (hk.kept hC).cell 0; go_simp <;> first | rfl | omega) ?_
    simp only [Act.put, List.setIfInBounds_toArray, List.set_cons_zero, List.set_cons_succ]
    refine wpT_callIs rfl (fun wx hC _ => by go_simp <;> first | exact ⟨rfl, rfl⟩ | rfl) (fun wx hC _ => itoa_any wx li hl0 hl1 (tab_below hT hC)) ?_
    simp only [Act.put, List.setIfInBounds_toArray, List.set_cons_zero, List.set_cons_succ]
    refine wpT_is (fun _ => Below.refl _ _) rfl (fun wx hC hS => by have hap : str (Lib.itoa li) ++ ({ data := #[58] } : ByteArray) = str (Lib.itoa li ++ [58]) := str_append (Lib.itoa li) [58]; have n1 : ¬ 9223372036854775807 < (str (Lib.itoa li)).size + 1 := (by omega); go_simp <;> first | rfl | omega) ?_
    simp only [Act.put, List.setIfInBounds_toArray, List.set_cons_zero, List.set_cons_succ]
    refine wpT_is (fun _ => Below.refl _ _) rfl (fun wx hC hS => by go_simp <;> first | rfl | omega) ?_
    simp only [Act.put, List.setIfInBounds_toArray, List.set_cons_zero, List.set_cons_succ]
    refine wpT_is (fun _ => Below.refl _ _) rfl (fun wx hC hS => by go_simp <;> first | rfl | omega) ?_
    simp only [Act.put, List.setIfInBounds_toArray, List.set_cons_zero, List.set_cons_succ]
    refine wpT_is (fun _ => Below.refl _ _) rfl (fun wx hC hS => by go_simp <;> first | rfl | omega) ?_
    simp only [Act.put, List.setIfInBounds_toArray, List.set_cons_zero, List.set_cons_succ]
    refine wpT_is (fun _ => Below.refl _ _) rfl (fun wx hC hS => by have c1 : wx.cell? ⟨b, 1, none⟩ = some (.int .i64 co) := (hk.kept hC).cell 1; go_simp <;> first | rfl | omega) ?_
    simp only [Act.put, List.setIfInBounds_toArray, List.set_cons_zero, List.set_cons_succ]
    refine wpT_callIs rfl (fun wx hC _ => by go_simp <;> first | exact ⟨rfl, rfl⟩ | rfl) (fun wx hC _ => itoa_any wx co hc0 hc1 (tab_below hT hC)) ?_
    simp only [Act.put, List.setIfInBounds_toArray, List.set_cons_zero, List.set_cons_succ]
    refine wpT_is (fun _ => Below.refl _ _) rfl (fun wx hC hS => by have hap := str_append (Lib.itoa li ++ [58]) (Lib.itoa co); have n2 : ¬ 9223372036854775807 < (str (Lib.itoa li ++ [58])).size + (str (Lib.itoa co)).size := (by omega); go_simp <;> first | rfl | omega) ?_
    simp only [Act.put, List.setIfInBounds_toArray, List.set_cons_zero, List.set_cons_succ]
    refine wpT_is (fun _ => Below.refl _ _) rfl (fun wx hC hS => by go_simp <;> first | rfl | omega) ?_
    simp only [Act.put, List.setIfInBounds_toArray, List.set_cons_zero, List.set_cons_succ]
    refine wpT_nil fun wx hC _ => ?_
    go_wp2_with fail
    go_ret
    exact ⟨rfl, hC⟩
end Go.Proofs.YtgpihhigajmldaaDoor
