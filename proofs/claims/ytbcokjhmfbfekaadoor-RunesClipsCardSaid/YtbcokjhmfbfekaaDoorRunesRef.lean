/- The contracts of redlineref06.Size and Walk. Condition: texts of fewer than 2^47 bytes. -/
import Derived.Test.YtbcokjhmfbfekaaDoorProg
import Derived.Test.YtbcokjhmfbfekaaDoorMem
import Derived.Test.YtbcokjhmfbfekaaDoorRow
import Derived.Test.YtbcokjhmfbfekaaDoorStrs
import Derived.Test.YtbcokjhmfbfekaaDoorRunesMath
namespace Go.Proofs.YtbcokjhmfbfekaaDoor
open Go.RowKit

/-- The number of a rune's bytes. -/
def rval (v : Nat) (xs : List UInt8) : Nat := xs.foldl (fun v x => v * 64 + (x.toNat - 128)) v
theorem rval_snoc (v : Nat) (xs : List UInt8) (x : UInt8) : rval v (xs ++ [x]) = rval v xs * 64 + (x.toNat - 128) := by unfold rval; rw [List.foldl_append]; rfl
/-- The class of a first byte, by its upper bits. -/
abbrev Class (B n c : Nat) : Prop := (n = 2 ∧ 192 ≤ B ∧ B < 224 ∧ c = 192) ∨ (n = 3 ∧ 224 ≤ B ∧ B < 240 ∧ c = 224) ∨ (n = 4 ∧ 240 ≤ B ∧ B < 248 ∧ c = 240)
def rleast (n : Nat) : Nat := if n = 2 then 128 else if n = 3 then 2048 else 65536
theorem rneed_class {b : UInt8} {n c : Nat} (h : Class b.toNat n c) : rneed b = n ∨ rneed b = 0 := by
  unfold rneed
  repeat' split
  all_goals omega
theorem rsize_short {b : UInt8} {n c : Nat} {t : List UInt8} (h : Class b.toNat n c) (ht : t.length + 1 < n) : rsize (b :: t) = 0 := by
  rw [rsize_cons]
  rcases rneed_class h with e | e
  · rw [if_neg fun hh => by have := hh.1; omega]
  · rw [e]; split <;> rfl
theorem rsize_nomore {b : UInt8} {n c j : Nat} {t : List UInt8} (h : Class b.toNat n c) {x : UInt8} (hx : t[j]? = some x) (hj : j + 1 < n) (hno : ¬ rmore x) : rsize (b :: t) = 0 := by
  rw [rsize_cons]
  rcases rneed_class h with e | e
  · rw [if_neg fun hh => hno (hh.2.1 x (List.mem_of_getElem? (i := j) (by rw [List.getElem?_take, if_pos (by omega)]; exact hx)))]
  · rw [e]; split <;> rfl
theorem need_none {b : UInt8} (h : rneed b = 0) (t : List UInt8) : rsize (b :: t) = 0 := by
  rw [rsize_cons, h]
  split <;> rfl
theorem need_some {b : UInt8} {n : Nat} (hn : rneed b = n) (t : List UInt8) (ht : n ≤ t.length + 1) (h : rfits b (t.take (n - 1))) : rsize (b :: t) = n := by
  rw [rsize_cons, hn, if_pos ⟨ht, h⟩]
theorem need_no {b : UInt8} (x : UInt8) (t : List UInt8) (h2 : 2 ≤ rneed b) (h : ¬ rnext b x) : rsize (b :: x :: t) = 0 := by
  rw [rsize_cons, if_neg fun hh => h (hh.2.2 x (by
    obtain ⟨m, hm⟩ : ∃ m, rneed b - 1 = m + 1 := ⟨rneed b - 2, by omega⟩
    rw [hm]
    rfl))]
theorem rsize_value {b : UInt8} {n c : Nat} {t : List UInt8} (h : Class b.toNat n c) (ht : n ≤ t.length + 1) (hm : ∀ x ∈ t.take (n - 1), rmore x) :
    rsize (b :: t) = if rval (b.toNat - c) (t.take (n - 1)) < rleast n ∨ 1114111 < rval (b.toNat - c) (t.take (n - 1)) ∨ (55296 ≤ rval (b.toNat - c) (t.take (n - 1)) ∧ rval (b.toNat - c) (t.take (n - 1)) ≤ 57343) then 0 else n := by
  have hb := b.toNat_lt
  obtain ⟨V, hV⟩ : ∃ V, rval (b.toNat - c) (t.take (n - 1)) = V := ⟨_, rfl⟩
  rw [hV]
  rcases h with ⟨rfl, h1, h2, rfl⟩ | ⟨rfl, h1, h2, rfl⟩ | ⟨rfl, h1, h2, rfl⟩
  · rcases t with _ | ⟨x, t⟩
    · simp at ht
    · clear ht
      have hx : rmore x := hm x List.mem_cons_self
      have hV' : (b.toNat - 192) * 64 + (x.toNat - 128) = V := hV
      have el : rleast 2 = 128 := rfl
      rw [el]
      by_cases hlo : b.toNat < 194
      · rw [need_none (by unfold rneed; rw [if_neg (by omega), if_pos hlo]), if_pos (by omega)]
      · rw [if_neg (by omega)]
        refine need_some (by unfold rneed; rw [if_neg (by omega), if_neg hlo, if_pos h2]) _ (by simp) ⟨hm, fun y hy => ?_⟩
        obtain rfl : x = y := Option.some.inj hy
        unfold rnext
        omega
  · rcases t with _ | ⟨x, _ | ⟨y, t⟩⟩
    · simp at ht
    · simp at ht
    · clear ht
      have hx : rmore x := hm x List.mem_cons_self
      have hy : rmore y := hm y (List.mem_cons_of_mem _ List.mem_cons_self)
      have hV' : ((b.toNat - 224) * 64 + (x.toNat - 128)) * 64 + (y.toNat - 128) = V := hV
      have el : rleast 3 = 2048 := rfl
      have en : rneed b = 3 := by unfold rneed; rw [if_neg (by omega), if_neg (by omega), if_neg (by omega), if_pos h2]
      rw [el]
      by_cases hn : rnext b x
      · have hn' := hn
        unfold rnext at hn'
        rw [if_neg (by omega)]
        refine need_some en _ (by simp) ⟨hm, fun z hz => ?_⟩
        obtain rfl : x = z := Option.some.inj hz
        exact hn
      · have hn' := hn
        unfold rnext at hn'
        rw [need_no x _ (by omega) hn, if_pos (by omega)]
  · rcases t with _ | ⟨x, _ | ⟨y, _ | ⟨z, t⟩⟩⟩
    · simp at ht
    · simp at ht
    · simp at ht
    · clear ht
      have hx : rmore x := hm x List.mem_cons_self
      have hy : rmore y := hm y (List.mem_cons_of_mem _ List.mem_cons_self)
      have hz : rmore z := hm z (List.mem_cons_of_mem _ (List.mem_cons_of_mem _ List.mem_cons_self))
      have hV' : (((b.toNat - 240) * 64 + (x.toNat - 128)) * 64 + (y.toNat - 128)) * 64 + (z.toNat - 128) = V := hV
      have el : rleast 4 = 65536 := rfl
      rw [el]
      by_cases h5 : b.toNat < 245
      · have en : rneed b = 4 := by unfold rneed; rw [if_neg (by omega), if_neg (by omega), if_neg (by omega), if_neg (by omega), if_pos h5]
        by_cases hn : rnext b x
        · have hn' := hn
          unfold rnext at hn'
          rw [if_neg (by omega)]
          refine need_some en _ (by simp) ⟨hm, fun u hu => ?_⟩
          obtain rfl : x = u := Option.some.inj hu
          exact hn
        · have hn' := hn
          unfold rnext at hn'
          rw [need_no x _ (by omega) hn, if_pos (by omega)]
      · rw [need_none (by unfold rneed; rw [if_neg (by omega), if_neg (by omega), if_neg (by omega), if_neg (by omega), if_neg h5]), if_pos (by omega)]
theorem rsize_small {b : UInt8} (t : List UInt8) (h : b.toNat < 128) : rsize (b :: t) = 1 := by
  rw [rsize_cons]
  have e : rneed b = 1 := by unfold rneed; rw [if_pos h]
  rw [e, if_pos ⟨by omega, fun x hx => by simp at hx, fun x hx => by simp at hx⟩]
theorem rsize_none {b : UInt8} (t : List UInt8) (h : (128 ≤ b.toNat ∧ b.toNat < 192) ∨ 248 ≤ b.toNat) : rsize (b :: t) = 0 := by
  rw [rsize_cons]
  have e : rneed b = 0 := by
    unfold rneed
    repeat' split
    all_goals omega
  rw [e]
  split <;> rfl

theorem str_first (b : UInt8) (t : List UInt8) (u : World) : (Instr.index 9 (.string (str (b :: t))) (.int .i64 0)).run Tryd.prog u = .ok (.int .u8 (b.toNat : Int)) u := str_index (b :: t) 0 (by simp) u
set_option maxRecDepth 100000 in
theorem refSize_nil (w : World) : Calls Tryd.prog 12 #[.string (str [])] w fun e w' => e = .returned (.int .i64 (rsize [] : Int)) ∧ Below w.heap.size w w' := by
  have hz : (str []).size = 0 := rfl
  go_enter Tryd.func12, Tryd.ntmps12
  go_wp2
  go_ret
  exact ⟨rfl, Below.refl _ _⟩
set_option maxRecDepth 100000 in
set_option maxHeartbeats 2000000 in
theorem refSize_one (w : World) (b : UInt8) (t : List UInt8) (hB : b.toNat < 128) :
    Calls Tryd.prog 12 #[.string (str (b :: t))] w fun e w' => e = .returned (.int .i64 1) ∧ w = w' := by
  have hz : (str (b :: t)).size = t.length + 1 := by rw [strSize, List.length_cons]
  have h0 := str_first b t
  generalize b.toNat = B at *
  go_enter Tryd.func12, Tryd.ntmps12
  go_wp2
  go_ret
  exact ⟨rfl, rfl⟩

set_option maxRecDepth 100000 in
set_option maxHeartbeats 2000000 in
theorem refSize_none (w : World) (b : UInt8) (t : List UInt8) (hB : (128 ≤ b.toNat ∧ b.toNat < 192) ∨ 248 ≤ b.toNat) (_hl : t.length ≤ 140737488351232) :
    Calls Tryd.prog 12 #[.string (str (b :: t))] w fun e w' => e = .returned (.int .i64 0) ∧ w = w' := by
  have hz : (str (b :: t)).size = t.length + 1 := by rw [strSize, List.length_cons]
  have h0 := str_first b t
  have h255 := b.toNat_lt
  generalize b.toNat = B at *
  rcases hB with ⟨h1, h2⟩ | h1
  all_goals
    go_enter Tryd.func12, Tryd.ntmps12
    go_wp2
    go_ret
    exact ⟨rfl, rfl⟩
set_option maxRecDepth 100000 in
set_option maxHeartbeats 2000000 in
theorem refSize_short (w : World) (b : UInt8) (t : List UInt8) (n c : Nat) (h : Class b.toNat n c) (hs : t.length + 1 < n) :
    Calls Tryd.prog 12 #[.string (str (b :: t))] w fun e w' => e = .returned (.int .i64 0) ∧ w = w' := by
  have hz : (str (b :: t)).size = t.length + 1 := by rw [strSize, List.length_cons]
  have h0 := str_first b t
  generalize b.toNat = B at *
  rcases h with ⟨rfl, h1, h2, rfl⟩ | ⟨rfl, h1, h2, rfl⟩ | ⟨rfl, h1, h2, rfl⟩
  all_goals
    go_enter Tryd.func12, Tryd.ntmps12
    go_wp2
    go_ret
    exact ⟨rfl, rfl⟩
theorem rval_small {v : Nat} (hv : v < 32) : ∀ (xs : List UInt8), xs.length ≤ 3 → (∀ x ∈ xs, rmore x) → rval v xs < 8388608
  | [], _, _ => by unfold rval; simp only [List.foldl_nil]; omega
  | [x], _, h => by
    have hx := h x (by simp)
    unfold rval
    simp only [List.foldl_cons, List.foldl_nil]
    omega
  | [x, y], _, h => by
    have hx := h x (by simp)
    have hy := h y (by simp)
    unfold rval
    simp only [List.foldl_cons, List.foldl_nil]
    omega
  | [x, y, z], _, h => by
    have hx := h x (by simp)
    have hy := h y (by simp)
    have hz := h z (by simp)
    unfold rval
    simp only [List.foldl_cons, List.foldl_nil]
    omega
  | _ :: _ :: _ :: _ :: _, hl, _ => by simp at hl
theorem take_more {t : List UInt8} {j : Nat} (hj : j < t.length) (h : ∀ x ∈ t.take j, rmore x) (hx : rmore t[j]) : ∀ x ∈ t.take (j + 1), rmore x := fun x h' => by
  rw [List.take_succ_eq_append_getElem hj] at h'
  rcases List.mem_append.1 h' with h' | h'
  · exact h x h'
  · rw [List.mem_singleton.1 h']; exact hx

set_option maxRecDepth 100000 in
set_option maxHeartbeats 4000000 in
theorem refSize_2 (w : World) (b : UInt8) (t : List UInt8) (h1 : 192 ≤ b.toNat) (h2 : b.toNat < 224) (hs : 2 ≤ t.length + 1) (hl : t.length ≤ 140737488351232) :
    Calls Tryd.prog 12 #[.string (str (b :: t))] w fun e w' => e = .returned (.int .i64 (rsize (b :: t) : Int)) ∧ Below w.heap.size w w' := by
  have h : Class b.toNat 2 192 := by unfold Class; omega
  have hz : (str (b :: t)).size = t.length + 1 := by rw [strSize, List.length_cons]
  have h0 := str_first b t
  have hno := fun (j : Nat) (x : UInt8) (hx : t[j]? = some x) => rsize_nomore (t := t) (j := j) h hx
  have hval := rsize_value h hs
  obtain ⟨R, hR⟩ : ∃ R, rsize (b :: t) = R := ⟨_, rfl⟩
  rw [hR] at hval ⊢
  simp only [hR] at hno
  have HNO := Lib.hid hno
  have HVAL := Lib.hid hval
  clear hno hval hR h
  generalize b.toNat = B at *
  have hc32 : B - 192 < 32 := by omega
  have HCI := Lib.hid (show (B : Int) - 192 = ((B - 192 : Nat) : Int) by omega)
  have h1' : (192 : Int) ≤ (B : Int) := by omega
  have h2' : (B : Int) < 224 := by omega
  · go_enter Tryd.func12, Tryd.ntmps12
    go_wp2_with fail
    go_loop [6, 5] (fun i v => ∃ j : Nat, j + 1 ≤ 2 ∧ i = .int .i64 ((j : Int) + 1) ∧ Hid (∀ x ∈ t.take j, rmore x) ∧ v = .int .i64 ((rval (B - 192) (t.take j) : Nat) : Int)) (fun i _ => 2 - (intOf i).toNat)
    case atStart => exact ⟨0, by omega, rfl, Lib.hid (by simp), by have := HCI.out; simp only [rval, List.take_zero, List.foldl_nil]; rw [← this]⟩
    case round =>
      obtain ⟨j, hj, rfl, HM, rfl⟩ := hrel
      have hV := rval_small hc32 (t.take j) (by rw [List.length_take]; omega) HM.out
      by_cases hlt : j + 1 < 2
      · have hjt : j < t.length := by omega
        have hx : ∀ u, _ = Result.ok _ u := str_index (b :: t) (j + 1) (by simp; omega)
        rw [show (((j + 1 : Nat)) : Int) = (j : Int) + 1 by omega] at hx
        simp only [List.getElem_cons_succ] at hx
        have HSN := Lib.hid (show rval (B - 192) (t.take (j + 1)) = rval (B - 192) (t.take j) * 64 + (t[j].toNat - 128) by rw [List.take_succ_eq_append_getElem hjt, rval_snoc])
        generalize rval (B - 192) (t.take j) = V at *
        have hxx := t[j].toNat_lt
        by_cases hm : rmore t[j]
        · have HM2 := Lib.hid (take_more hjt HM.out hm)
          have hm1 := hm.1
          have hm2 := hm.2
          generalize t[j].toNat = X at *
          clear hm
          go_wp2_with fail
          go_round
          case rel => exact ⟨j + 1, by omega, by go_num, HM2, by rw [HSN.out]; go_num⟩
          case measure => simp [intOf]; omega
        · have hR := HNO.out j t[j] (List.getElem?_eq_getElem hjt) hlt hm
          have HR := Lib.hid hR
          have hm' : t[j].toNat < 128 ∨ 191 < t[j].toNat := by omega
          generalize t[j].toNat = X at *
          clear hR hm
          rcases hm' with hm' | hm'
          all_goals
            go_wp2_with fail
            go_ret
            exact ⟨by rw [HR.out]; rfl, Below.refl _ _⟩
      · obtain rfl : j = 1 := by omega
        have hval := HVAL.out HM.out
        rw [show 2 - 1 = 1 from rfl, show rleast 2 = 128 from rfl] at hval
        generalize rval (B - 192) (t.take 1) = V at *
        have HB := fun o => (Below.refl w.heap.size w).alloc (Nat.le_refl _) o
        by_cases hc : V < 128 ∨ 1114111 < V ∨ (55296 ≤ V ∧ V ≤ 57343)
        · rw [if_pos hc] at hval
          have HR := Lib.hid hval
          clear hval
          rcases hc with hc | hc | ⟨hc, hc'⟩
          all_goals
            go_wp2_with fail
            go_ret
            exact ⟨by rw [HR.out]; rfl, HB _⟩
        · rw [if_neg hc] at hval
          have HR := Lib.hid hval
          have g1 : 128 ≤ V := by omega
          have g2 : V ≤ 1114111 := by omega
          clear hval
          by_cases g3 : V < 55296
          · first
              | exact absurd g3 (by omega)
              | (clear hc
                 go_wp2_with fail
                 go_ret
                 exact ⟨by rw [HR.out]; rfl, HB _⟩)
          · have g4 : 57343 < V := by omega
            clear hc
            go_wp2_with fail
            go_ret
            exact ⟨by rw [HR.out]; rfl, HB _⟩

set_option maxRecDepth 100000 in
set_option maxHeartbeats 4000000 in
theorem refSize_3 (w : World) (b : UInt8) (t : List UInt8) (h1 : 224 ≤ b.toNat) (h2 : b.toNat < 240) (hs : 3 ≤ t.length + 1) (hl : t.length ≤ 140737488351232) :
    Calls Tryd.prog 12 #[.string (str (b :: t))] w fun e w' => e = .returned (.int .i64 (rsize (b :: t) : Int)) ∧ Below w.heap.size w w' := by
  have h : Class b.toNat 3 224 := by unfold Class; omega
  have hz : (str (b :: t)).size = t.length + 1 := by rw [strSize, List.length_cons]
  have h0 := str_first b t
  have hno := fun (j : Nat) (x : UInt8) (hx : t[j]? = some x) => rsize_nomore (t := t) (j := j) h hx
  have hval := rsize_value h hs
  obtain ⟨R, hR⟩ : ∃ R, rsize (b :: t) = R := ⟨_, rfl⟩
  rw [hR] at hval ⊢
  simp only [hR] at hno
  have HNO := Lib.hid hno
  have HVAL := Lib.hid hval
  clear hno hval hR h
  generalize b.toNat = B at *
  have hc32 : B - 224 < 32 := by omega
  have HCI := Lib.hid (show (B : Int) - 224 = ((B - 224 : Nat) : Int) by omega)
  have h1' : (224 : Int) ≤ (B : Int) := by omega
  have h2' : (B : Int) < 240 := by omega
  · go_enter Tryd.func12, Tryd.ntmps12
    go_wp2_with fail
    go_loop [6, 5] (fun i v => ∃ j : Nat, j + 1 ≤ 3 ∧ i = .int .i64 ((j : Int) + 1) ∧ Hid (∀ x ∈ t.take j, rmore x) ∧ v = .int .i64 ((rval (B - 224) (t.take j) : Nat) : Int)) (fun i _ => 3 - (intOf i).toNat)
    case atStart => exact ⟨0, by omega, rfl, Lib.hid (by simp), by have := HCI.out; simp only [rval, List.take_zero, List.foldl_nil]; rw [← this]⟩
    case round =>
      obtain ⟨j, hj, rfl, HM, rfl⟩ := hrel
      have hV := rval_small hc32 (t.take j) (by rw [List.length_take]; omega) HM.out
      by_cases hlt : j + 1 < 3
      · have hjt : j < t.length := by omega
        have hx : ∀ u, _ = Result.ok _ u := str_index (b :: t) (j + 1) (by simp; omega)
        rw [show (((j + 1 : Nat)) : Int) = (j : Int) + 1 by omega] at hx
        simp only [List.getElem_cons_succ] at hx
        have HSN := Lib.hid (show rval (B - 224) (t.take (j + 1)) = rval (B - 224) (t.take j) * 64 + (t[j].toNat - 128) by rw [List.take_succ_eq_append_getElem hjt, rval_snoc])
        generalize rval (B - 224) (t.take j) = V at *
        have hxx := t[j].toNat_lt
        by_cases hm : rmore t[j]
        · have HM2 := Lib.hid (take_more hjt HM.out hm)
          have hm1 := hm.1
          have hm2 := hm.2
          generalize t[j].toNat = X at *
          clear hm
          go_wp2_with fail
          go_round
          case rel => exact ⟨j + 1, by omega, by go_num, HM2, by rw [HSN.out]; go_num⟩
          case measure => simp [intOf]; omega
        · have hR := HNO.out j t[j] (List.getElem?_eq_getElem hjt) hlt hm
          have HR := Lib.hid hR
          have hm' : t[j].toNat < 128 ∨ 191 < t[j].toNat := by omega
          generalize t[j].toNat = X at *
          clear hR hm
          rcases hm' with hm' | hm'
          all_goals
            go_wp2_with fail
            go_ret
            exact ⟨by rw [HR.out]; rfl, Below.refl _ _⟩
      · obtain rfl : j = 2 := by omega
        have hval := HVAL.out HM.out
        rw [show 3 - 1 = 2 from rfl, show rleast 3 = 2048 from rfl] at hval
        generalize rval (B - 224) (t.take 2) = V at *
        have HB := fun o => (Below.refl w.heap.size w).alloc (Nat.le_refl _) o
        by_cases hc : V < 2048 ∨ 1114111 < V ∨ (55296 ≤ V ∧ V ≤ 57343)
        · rw [if_pos hc] at hval
          have HR := Lib.hid hval
          clear hval
          rcases hc with hc | hc | ⟨hc, hc'⟩
          all_goals
            go_wp2_with fail
            go_ret
            exact ⟨by rw [HR.out]; rfl, HB _⟩
        · rw [if_neg hc] at hval
          have HR := Lib.hid hval
          have g1 : 2048 ≤ V := by omega
          have g2 : V ≤ 1114111 := by omega
          clear hval
          by_cases g3 : V < 55296
          · first
              | exact absurd g3 (by omega)
              | (clear hc
                 go_wp2_with fail
                 go_ret
                 exact ⟨by rw [HR.out]; rfl, HB _⟩)
          · have g4 : 57343 < V := by omega
            clear hc
            go_wp2_with fail
            go_ret
            exact ⟨by rw [HR.out]; rfl, HB _⟩

set_option maxRecDepth 100000 in
set_option maxHeartbeats 4000000 in
theorem refSize_4 (w : World) (b : UInt8) (t : List UInt8) (h1 : 240 ≤ b.toNat) (h2 : b.toNat < 248) (hs : 4 ≤ t.length + 1) (hl : t.length ≤ 140737488351232) :
    Calls Tryd.prog 12 #[.string (str (b :: t))] w fun e w' => e = .returned (.int .i64 (rsize (b :: t) : Int)) ∧ Below w.heap.size w w' := by
  have h : Class b.toNat 4 240 := by unfold Class; omega
  have hz : (str (b :: t)).size = t.length + 1 := by rw [strSize, List.length_cons]
  have h0 := str_first b t
  have hno := fun (j : Nat) (x : UInt8) (hx : t[j]? = some x) => rsize_nomore (t := t) (j := j) h hx
  have hval := rsize_value h hs
  obtain ⟨R, hR⟩ : ∃ R, rsize (b :: t) = R := ⟨_, rfl⟩
  rw [hR] at hval ⊢
  simp only [hR] at hno
  have HNO := Lib.hid hno
  have HVAL := Lib.hid hval
  clear hno hval hR h
  generalize b.toNat = B at *
  have hc32 : B - 240 < 32 := by omega
  have HCI := Lib.hid (show (B : Int) - 240 = ((B - 240 : Nat) : Int) by omega)
  have h1' : (240 : Int) ≤ (B : Int) := by omega
  have h2' : (B : Int) < 248 := by omega
  · go_enter Tryd.func12, Tryd.ntmps12
    go_wp2_with fail
    go_loop [6, 5] (fun i v => ∃ j : Nat, j + 1 ≤ 4 ∧ i = .int .i64 ((j : Int) + 1) ∧ Hid (∀ x ∈ t.take j, rmore x) ∧ v = .int .i64 ((rval (B - 240) (t.take j) : Nat) : Int)) (fun i _ => 4 - (intOf i).toNat)
    case atStart => exact ⟨0, by omega, rfl, Lib.hid (by simp), by have := HCI.out; simp only [rval, List.take_zero, List.foldl_nil]; rw [← this]⟩
    case round =>
      obtain ⟨j, hj, rfl, HM, rfl⟩ := hrel
      have hV := rval_small hc32 (t.take j) (by rw [List.length_take]; omega) HM.out
      by_cases hlt : j + 1 < 4
      · have hjt : j < t.length := by omega
        have hx : ∀ u, _ = Result.ok _ u := str_index (b :: t) (j + 1) (by simp; omega)
        rw [show (((j + 1 : Nat)) : Int) = (j : Int) + 1 by omega] at hx
        simp only [List.getElem_cons_succ] at hx
        have HSN := Lib.hid (show rval (B - 240) (t.take (j + 1)) = rval (B - 240) (t.take j) * 64 + (t[j].toNat - 128) by rw [List.take_succ_eq_append_getElem hjt, rval_snoc])
        generalize rval (B - 240) (t.take j) = V at *
        have hxx := t[j].toNat_lt
        by_cases hm : rmore t[j]
        · have HM2 := Lib.hid (take_more hjt HM.out hm)
          have hm1 := hm.1
          have hm2 := hm.2
          generalize t[j].toNat = X at *
          clear hm
          go_wp2_with fail
          go_round
          case rel => exact ⟨j + 1, by omega, by go_num, HM2, by rw [HSN.out]; go_num⟩
          case measure => simp [intOf]; omega
        · have hR := HNO.out j t[j] (List.getElem?_eq_getElem hjt) hlt hm
          have HR := Lib.hid hR
          have hm' : t[j].toNat < 128 ∨ 191 < t[j].toNat := by omega
          generalize t[j].toNat = X at *
          clear hR hm
          rcases hm' with hm' | hm'
          all_goals
            go_wp2_with fail
            go_ret
            exact ⟨by rw [HR.out]; rfl, Below.refl _ _⟩
      · obtain rfl : j = 3 := by omega
        have hval := HVAL.out HM.out
        rw [show 4 - 1 = 3 from rfl, show rleast 4 = 65536 from rfl] at hval
        generalize rval (B - 240) (t.take 3) = V at *
        have HB := fun o => (Below.refl w.heap.size w).alloc (Nat.le_refl _) o
        by_cases hc : V < 65536 ∨ 1114111 < V ∨ (55296 ≤ V ∧ V ≤ 57343)
        · rw [if_pos hc] at hval
          have HR := Lib.hid hval
          clear hval
          rcases hc with hc | hc | ⟨hc, hc'⟩
          all_goals
            go_wp2_with fail
            go_ret
            exact ⟨by rw [HR.out]; rfl, HB _⟩
        · rw [if_neg hc] at hval
          have HR := Lib.hid hval
          have g1 : 65536 ≤ V := by omega
          have g2 : V ≤ 1114111 := by omega
          clear hval
          by_cases g3 : V < 55296
          · first
              | exact absurd g3 (by omega)
              | (clear hc
                 go_wp2_with fail
                 go_ret
                 exact ⟨by rw [HR.out]; rfl, HB _⟩)
          · have g4 : 57343 < V := by omega
            clear hc
            go_wp2_with fail
            go_ret
            exact ⟨by rw [HR.out]; rfl, HB _⟩

/-- redlineref06.Size. -/
theorem refSize_any (w : World) (l : List UInt8) (hl : l.length ≤ 140737488351232) :
    Calls Tryd.prog 12 #[.string (str l)] w fun e w' => e = .returned (.int .i64 (rsize l : Int)) ∧ Below w.heap.size w w' := by
  match l, hl with
  | [], _ => exact refSize_nil w
  | b :: t, hl =>
    have hl' : t.length ≤ 140737488351232 := by simp at hl; omega
    by_cases h1 : b.toNat < 128
    · rw [rsize_small t h1]
      exact (refSize_one w b t h1).mono fun e w' ⟨he, hw⟩ => ⟨he, hw ▸ Below.refl _ _⟩
    · by_cases h2 : b.toNat < 192 ∨ 248 ≤ b.toNat
      · rw [rsize_none t (by omega)]
        exact (refSize_none w b t (by omega) hl').mono fun e w' ⟨he, hw⟩ => ⟨he, hw ▸ Below.refl _ _⟩
      · obtain ⟨n, c, hcl⟩ : ∃ n c, Class b.toNat n c := by
          by_cases h3 : b.toNat < 224
          · exact ⟨2, 192, by unfold Class; omega⟩
          · by_cases h4 : b.toNat < 240
            · exact ⟨3, 224, by unfold Class; omega⟩
            · exact ⟨4, 240, by unfold Class; omega⟩
        by_cases hs : n ≤ t.length + 1
        · rcases hcl with ⟨rfl, h3, h4, rfl⟩ | ⟨rfl, h3, h4, rfl⟩ | ⟨rfl, h3, h4, rfl⟩
          · exact refSize_2 w b t h3 h4 hs hl'
          · exact refSize_3 w b t h3 h4 hs hl'
          · exact refSize_4 w b t h3 h4 hs hl'
        · rw [rsize_short hcl (by omega)]
          exact (refSize_short w b t n c hcl (by omega)).mono fun e w' ⟨he, hw⟩ => ⟨he, hw ▸ Below.refl _ _⟩
end Go.Proofs.YtbcokjhmfbfekaaDoor
