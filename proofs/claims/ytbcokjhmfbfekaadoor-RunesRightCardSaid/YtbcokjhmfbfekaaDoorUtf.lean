/- unicode/utf8.DecodeRuneInString at every text, by its own two tables: how many bytes the first rune has. Condition: the two tables hold what the library lays (Tab). -/
import Derived.Test.YtbcokjhmfbfekaaDoorProg
import Derived.Test.YtbcokjhmfbfekaaDoorMem
import Derived.Test.YtbcokjhmfbfekaaDoorStrs
import Derived.Test.YtbcokjhmfbfekaaDoorRunesMath
import Derived.Test.YtbcokjhmfbfekaaDoorRunesRef
import Derived.Below
namespace Go.Proofs.YtbcokjhmfbfekaaDoor
open Go.RowKit

/-- What the first table says of a byte. -/
def rfirst (b : Nat) : Nat :=
  if b < 128 then 240 else if b < 194 then 241 else if b < 224 then 2 else if b = 224 then 19 else if b = 237 then 35 else if b < 240 then 3 else if b = 240 then 52 else if b < 244 then 4 else if b = 244 then 68 else 241
/-- The second table's pairs that are in use. -/
def raccept (i : Nat) : Nat × Nat := if i = 0 then (128, 191) else if i = 1 then (160, 191) else if i = 2 then (128, 159) else if i = 3 then (144, 191) else (128, 143)
/-- The two tables are as the library lays them. -/
structure Tab (w : World) : Prop where
  first : ∀ b, b < 256 → w.cell? ⟨0, b, none⟩ = some (.int .u8 (rfirst b : Int))
  lo : ∀ i, i < 5 → w.cell? ⟨1, 2 * i, none⟩ = some (.int .u8 ((raccept i).1 : Int))
  hi : ∀ i, i < 5 → w.cell? ⟨1, 2 * i + 1, none⟩ = some (.int .u8 ((raccept i).2 : Int))
theorem Tab.below {w w' : World} (h : Tab w) (hb : Below w.heap.size w w') : Tab w' := by
  have h0 : 0 < w.heap.size := World.block_lt_of_cell? _ _ (h.first 0 (by decide))
  have h1 : 1 < w.heap.size := World.block_lt_of_cell? _ _ (h.lo 0 (by decide))
  exact ⟨fun b hlt => (hb.cell (p := ⟨_, _, none⟩) h0).trans (h.first b hlt), fun i hlt => (hb.cell (p := ⟨_, _, none⟩) h1).trans (h.lo i hlt), fun i hlt => (hb.cell (p := ⟨_, _, none⟩) h1).trans (h.hi i hlt)⟩

/-- What the decoder answers: K bytes, and the rune R, which is the replacement's number with 1 byte where there is no rune. -/
def Dec (l : List UInt8) (R K : Int) : Prop := (R = 65533 ∧ K = 1 ∧ rsize l = 0) ∨ (¬ (R = 65533 ∧ K = 1) ∧ K = (rsize l : Int))
theorem Dec.bad {l : List UInt8} (h : rsize l = 0) : Dec l 65533 1 := .inl ⟨rfl, rfl, h⟩
theorem Dec.ok {l : List UInt8} {R K : Int} (h : K = (rsize l : Int)) (hk : 2 ≤ K) : Dec l R K := .inr ⟨by omega, h⟩

theorem rsize_bad {b : UInt8} (t : List UInt8) (h : rfirst b.toNat = 241) : rsize (b :: t) = 0 := by
  have hb := b.toNat_lt
  refine need_none ?_ t
  unfold rfirst at h
  unfold rneed
  repeat' split at h
  all_goals first | (exfalso; omega) | skip
  all_goals
    repeat' split
    all_goals omega
theorem take_one (x : UInt8) (t : List UInt8) : (x :: t).take 1 = [x] := rfl
theorem take_two (x y : UInt8) (t : List UInt8) : (x :: y :: t).take 2 = [x, y] := rfl
theorem take_three (x y z : UInt8) (t : List UInt8) : (x :: y :: z :: t).take 3 = [x, y, z] := rfl
theorem rsize_two (b x : UInt8) (t : List UInt8) (h : rneed b = 2) : rsize (b :: x :: t) = if rmore x ∧ rnext b x then 2 else 0 := by
  rw [rsize_cons, h, take_one]
  have e : (2 ≤ (x :: t).length + 1 ∧ rfits b [x]) ↔ (rmore x ∧ rnext b x) := by
    simp [rfits]
  simp only [e]
theorem rsize_three (b x y : UInt8) (t : List UInt8) (h : rneed b = 3) : rsize (b :: x :: y :: t) = if rmore x ∧ rmore y ∧ rnext b x then 3 else 0 := by
  rw [rsize_cons, h, take_two]
  have e : (3 ≤ (x :: y :: t).length + 1 ∧ rfits b [x, y]) ↔ (rmore x ∧ rmore y ∧ rnext b x) := by
    simp [rfits, and_assoc]
  simp only [e]
theorem rsize_four' (b x y z : UInt8) (t : List UInt8) (h : rneed b = 4) : rsize (b :: x :: y :: z :: t) = if rmore x ∧ rmore y ∧ rmore z ∧ rnext b x then 4 else 0 := by
  rw [rsize_cons, h, take_three]
  have e : (4 ≤ (x :: y :: z :: t).length + 1 ∧ rfits b [x, y, z]) ↔ (rmore x ∧ rmore y ∧ rmore z ∧ rnext b x) := by
    simp [rfits, and_assoc]
  simp only [e]
theorem rsize_few (b : UInt8) (t : List UInt8) (n : Nat) (h : rneed b = n) (hs : t.length + 1 < n) : rsize (b :: t) = 0 := by
  rw [rsize_cons, h, if_neg fun hh => by have := hh.1; omega]

/-- What the slow decoder answers. -/
def SlowSays (w : World) (l : List UInt8) : Prop := Calls Tryd.prog 17 #[.string (str l)] w fun e w' => ∃ R K : Int, e = .returned (.tuple #[.int .i32 R, .int .i64 K]) ∧ Dec l R K ∧ Below w.heap.size w w'
set_option maxRecDepth 100000 in
theorem slow_nil (w : World) : SlowSays w [] := by
  have hz : (str []).size = 0 := rfl
  unfold SlowSays
  go_enter Tryd.func17, Tryd.ntmps17
  go_wp2
  go_ret2
  exact ⟨_, _, rfl, .inr ⟨by omega, rfl⟩, Below.refl _ _⟩
set_option maxRecDepth 100000 in
theorem drop_all (X : Nat) (h : X < 256) : bits .or .i32 (bits .andNot .i32 ((X : Nat) : Int) (-1)) (bits .and .i32 65533 (-1)) = 65533 := (by decide : ∀ x : Fin 256, bits .or .i32 (bits .andNot .i32 ((x.val : Nat) : Int) (-1)) (bits .and .i32 65533 (-1)) = 65533) ⟨X, h⟩
set_option maxRecDepth 100000 in
set_option maxHeartbeats 2000000 in
theorem slow_bad (w : World) (hT : Tab w) (b : UInt8) (t : List UInt8) (h : rfirst b.toNat = 241) : SlowSays w (b :: t) := by
  have hz : (str (b :: t)).size = t.length + 1 := by rw [strSize, List.length_cons]
  have h0 := str_first b t
  have hs := rsize_bad t h
  have hc := hT.first b.toNat b.toNat_lt
  have hlt := b.toNat_lt
  rw [h] at hc
  clear hT h
  unfold SlowSays
  have HD := Lib.hid (Dec.bad hs)
  clear hs
  generalize b.toNat = B at *
  have hdr := drop_all B hlt
  go_enter Tryd.func17, Tryd.ntmps17
  go_wp2
  go_ret2
  refine ⟨_, _, rfl, ?_, Below.refl _ _⟩
  rw [show wrap32 517543559168 / 2147483648 = -1 by unfold wrap32; omega, hdr]
  exact HD.out


set_option maxRecDepth 100000 in
set_option maxHeartbeats 4000000 in
theorem slow_short_2 (w : World) (hT : Tab w) (b : UInt8) (t : List UInt8) (hb : 194 ≤ b.toNat ∧ b.toNat < 224) (hs : t.length + 1 < 2) : SlowSays w (b :: t) := by
  have hlt := b.toNat_lt
  have hz : (str (b :: t)).size = t.length + 1 := by rw [strSize, List.length_cons]
  have hn : rneed b = 2 := by
    unfold rneed
    repeat' split
    all_goals omega
  have h0 := str_first b t
  have HD := Lib.hid (Dec.bad (rsize_few b t 2 hn hs))
  have hc := hT.first b.toNat hlt
  have hf : rfirst b.toNat = 2 := by
    unfold rfirst
    repeat' split
    all_goals omega
  rw [hf] at hc
  have ha0 : w.cell? ⟨1, 0, none⟩ = some (.int .u8 128) := hT.lo 0 (by decide)
  have ha1 : w.cell? ⟨1, 1, none⟩ = some (.int .u8 191) := hT.hi 0 (by decide)
  clear hT hn hf
  clear hb
  unfold SlowSays
  generalize b.toNat = B at *
  have hs' : ((t.length : Int) + 1) < 2 := by omega
  go_enter Tryd.func17, Tryd.ntmps17
  go_wp2
  all_goals (go_ret2; exact ⟨_, _, rfl, HD.out, (Below.refl _ _).alloc (Nat.le_refl _) _⟩)
set_option maxRecDepth 100000 in
set_option maxHeartbeats 4000000 in
theorem slow_long_2 (w : World) (hT : Tab w) (b x : UInt8) (t : List UInt8) (hb : 194 ≤ b.toNat ∧ b.toNat < 224) : SlowSays w (b :: x :: t) := by
  have hlt := b.toNat_lt
  have hz : (str (b :: x :: t)).size = t.length + 2 := by rw [strSize]; rfl
  have hn : rneed b = 2 := by
    unfold rneed
    repeat' split
    all_goals omega
  have h0 := str_first b (x :: t)
  have h1 : ∀ u, (Instr.index 9 (.string (str (b :: x :: t))) (.int .i64 1)).run Tryd.prog u = .ok (.int .u8 (x.toNat : Int)) u := str_index (b :: x :: t) 1 (by simp)
  have HS := Lib.hid (rsize_two b x t hn)
  have hc := hT.first b.toNat hlt
  have hf : rfirst b.toNat = 2 := by
    unfold rfirst
    repeat' split
    all_goals omega
  rw [hf] at hc
  have ha0 : w.cell? ⟨1, 0, none⟩ = some (.int .u8 128) := hT.lo 0 (by decide)
  have ha1 : w.cell? ⟨1, 1, none⟩ = some (.int .u8 191) := hT.hi 0 (by decide)
  clear hT hn hf
  unfold SlowSays
  have hb' := Lib.hid hb
  clear hb
  obtain ⟨S, hS⟩ : ∃ S, rsize (b :: x :: t) = S := ⟨_, rfl⟩
  obtain ⟨Ls, hL⟩ : ∃ Ls, b :: x :: t = Ls := ⟨_, rfl⟩
  rw [hL] at hz h0 HS hS ⊢
  rw [hL] at h1
  clear hL
  unfold rmore rnext at HS
  have hltx := x.toNat_lt
  generalize b.toNat = B at *
  generalize x.toNat = X at *
  go_enter Tryd.func17, Tryd.ntmps17
  go_wp2
  all_goals
    go_ret2
    refine ⟨_, _, rfl, ?_, (Below.refl _ _).alloc (Nat.le_refl _) _⟩
    have hs := HS.out
    have hb2 := hb'.out
    first
      | (refine Dec.bad ?_; rw [hs, if_neg]; omega)
      | (refine Dec.ok ?_ (by decide); rw [hs, if_pos]
         · rfl
         · omega)


set_option maxRecDepth 100000 in
set_option maxHeartbeats 4000000 in
theorem slow_short_E0 (w : World) (hT : Tab w) (b : UInt8) (t : List UInt8) (hb : b.toNat = 224) (hs : t.length + 1 < 3) : SlowSays w (b :: t) := by
  have hlt := b.toNat_lt
  have hz : (str (b :: t)).size = t.length + 1 := by rw [strSize, List.length_cons]
  have hn : rneed b = 3 := by
    unfold rneed
    repeat' split
    all_goals omega
  have h0 := str_first b t
  have HD := Lib.hid (Dec.bad (rsize_few b t 3 hn hs))
  have hc := hT.first b.toNat hlt
  have hf : rfirst b.toNat = 19 := by
    unfold rfirst
    repeat' split
    all_goals omega
  rw [hf] at hc
  have ha0 : w.cell? ⟨1, 2, none⟩ = some (.int .u8 160) := hT.lo 1 (by decide)
  have ha1 : w.cell? ⟨1, 3, none⟩ = some (.int .u8 191) := hT.hi 1 (by decide)
  clear hT hn hf
  clear hb
  unfold SlowSays
  generalize b.toNat = B at *
  have hs' : ((t.length : Int) + 1) < 3 := by omega
  go_enter Tryd.func17, Tryd.ntmps17
  go_wp2
  all_goals (go_ret2; exact ⟨_, _, rfl, HD.out, (Below.refl _ _).alloc (Nat.le_refl _) _⟩)
set_option maxRecDepth 100000 in
set_option maxHeartbeats 4000000 in
theorem slow_long_E0 (w : World) (hT : Tab w) (b x y : UInt8) (t : List UInt8) (hb : b.toNat = 224) : SlowSays w (b :: x :: y :: t) := by
  have hlt := b.toNat_lt
  have hz : (str (b :: x :: y :: t)).size = t.length + 3 := by rw [strSize]; rfl
  have hn : rneed b = 3 := by
    unfold rneed
    repeat' split
    all_goals omega
  have h0 := str_first b (x :: y :: t)
  have h1 : ∀ u, (Instr.index 9 (.string (str (b :: x :: y :: t))) (.int .i64 1)).run Tryd.prog u = .ok (.int .u8 (x.toNat : Int)) u := str_index (b :: x :: y :: t) 1 (by simp)
  have h2 : ∀ u, (Instr.index 9 (.string (str (b :: x :: y :: t))) (.int .i64 2)).run Tryd.prog u = .ok (.int .u8 (y.toNat : Int)) u := str_index (b :: x :: y :: t) 2 (by simp)
  have HS := Lib.hid (rsize_three b x y t hn)
  have hc := hT.first b.toNat hlt
  have hf : rfirst b.toNat = 19 := by
    unfold rfirst
    repeat' split
    all_goals omega
  rw [hf] at hc
  have ha0 : w.cell? ⟨1, 2, none⟩ = some (.int .u8 160) := hT.lo 1 (by decide)
  have ha1 : w.cell? ⟨1, 3, none⟩ = some (.int .u8 191) := hT.hi 1 (by decide)
  clear hT hn hf
  unfold SlowSays
  have hb' := Lib.hid hb
  clear hb
  obtain ⟨S, hS⟩ : ∃ S, rsize (b :: x :: y :: t) = S := ⟨_, rfl⟩
  obtain ⟨Ls, hL⟩ : ∃ Ls, b :: x :: y :: t = Ls := ⟨_, rfl⟩
  rw [hL] at hz h0 HS hS ⊢
  rw [hL] at h1
  rw [hL] at h2
  clear hL
  unfold rmore rnext at HS
  have hltx := x.toNat_lt
  have hlty := y.toNat_lt
  generalize b.toNat = B at *
  generalize x.toNat = X at *
  generalize y.toNat = Y at *
  go_enter Tryd.func17, Tryd.ntmps17
  go_wp2
  all_goals
    go_ret2
    refine ⟨_, _, rfl, ?_, (Below.refl _ _).alloc (Nat.le_refl _) _⟩
    have hs := HS.out
    have hb2 := hb'.out
    first
      | (refine Dec.bad ?_; rw [hs, if_neg]; omega)
      | (refine Dec.ok ?_ (by decide); rw [hs, if_pos]
         · rfl
         · omega)


set_option maxRecDepth 100000 in
set_option maxHeartbeats 4000000 in
theorem slow_short_E1 (w : World) (hT : Tab w) (b : UInt8) (t : List UInt8) (hb : (225 ≤ b.toNat ∧ b.toNat < 237) ∨ (238 ≤ b.toNat ∧ b.toNat < 240)) (hs : t.length + 1 < 3) : SlowSays w (b :: t) := by
  have hlt := b.toNat_lt
  have hz : (str (b :: t)).size = t.length + 1 := by rw [strSize, List.length_cons]
  have hn : rneed b = 3 := by
    unfold rneed
    repeat' split
    all_goals omega
  have h0 := str_first b t
  have HD := Lib.hid (Dec.bad (rsize_few b t 3 hn hs))
  have hc := hT.first b.toNat hlt
  have hf : rfirst b.toNat = 3 := by
    unfold rfirst
    repeat' split
    all_goals omega
  rw [hf] at hc
  have ha0 : w.cell? ⟨1, 0, none⟩ = some (.int .u8 128) := hT.lo 0 (by decide)
  have ha1 : w.cell? ⟨1, 1, none⟩ = some (.int .u8 191) := hT.hi 0 (by decide)
  clear hT hn hf
  clear hb
  unfold SlowSays
  generalize b.toNat = B at *
  have hs' : ((t.length : Int) + 1) < 3 := by omega
  go_enter Tryd.func17, Tryd.ntmps17
  go_wp2
  all_goals (go_ret2; exact ⟨_, _, rfl, HD.out, (Below.refl _ _).alloc (Nat.le_refl _) _⟩)
set_option maxRecDepth 100000 in
set_option maxHeartbeats 4000000 in
theorem slow_long_E1 (w : World) (hT : Tab w) (b x y : UInt8) (t : List UInt8) (hb : (225 ≤ b.toNat ∧ b.toNat < 237) ∨ (238 ≤ b.toNat ∧ b.toNat < 240)) : SlowSays w (b :: x :: y :: t) := by
  have hlt := b.toNat_lt
  have hz : (str (b :: x :: y :: t)).size = t.length + 3 := by rw [strSize]; rfl
  have hn : rneed b = 3 := by
    unfold rneed
    repeat' split
    all_goals omega
  have h0 := str_first b (x :: y :: t)
  have h1 : ∀ u, (Instr.index 9 (.string (str (b :: x :: y :: t))) (.int .i64 1)).run Tryd.prog u = .ok (.int .u8 (x.toNat : Int)) u := str_index (b :: x :: y :: t) 1 (by simp)
  have h2 : ∀ u, (Instr.index 9 (.string (str (b :: x :: y :: t))) (.int .i64 2)).run Tryd.prog u = .ok (.int .u8 (y.toNat : Int)) u := str_index (b :: x :: y :: t) 2 (by simp)
  have HS := Lib.hid (rsize_three b x y t hn)
  have hc := hT.first b.toNat hlt
  have hf : rfirst b.toNat = 3 := by
    unfold rfirst
    repeat' split
    all_goals omega
  rw [hf] at hc
  have ha0 : w.cell? ⟨1, 0, none⟩ = some (.int .u8 128) := hT.lo 0 (by decide)
  have ha1 : w.cell? ⟨1, 1, none⟩ = some (.int .u8 191) := hT.hi 0 (by decide)
  clear hT hn hf
  unfold SlowSays
  have hb' := Lib.hid hb
  clear hb
  obtain ⟨S, hS⟩ : ∃ S, rsize (b :: x :: y :: t) = S := ⟨_, rfl⟩
  obtain ⟨Ls, hL⟩ : ∃ Ls, b :: x :: y :: t = Ls := ⟨_, rfl⟩
  rw [hL] at hz h0 HS hS ⊢
  rw [hL] at h1
  rw [hL] at h2
  clear hL
  unfold rmore rnext at HS
  have hltx := x.toNat_lt
  have hlty := y.toNat_lt
  generalize b.toNat = B at *
  generalize x.toNat = X at *
  generalize y.toNat = Y at *
  go_enter Tryd.func17, Tryd.ntmps17
  go_wp2
  all_goals
    go_ret2
    refine ⟨_, _, rfl, ?_, (Below.refl _ _).alloc (Nat.le_refl _) _⟩
    have hs := HS.out
    have hb2 := hb'.out
    first
      | (refine Dec.bad ?_; rw [hs, if_neg]; omega)
      | (refine Dec.ok ?_ (by decide); rw [hs, if_pos]
         · rfl
         · omega)


set_option maxRecDepth 100000 in
set_option maxHeartbeats 4000000 in
theorem slow_short_ED (w : World) (hT : Tab w) (b : UInt8) (t : List UInt8) (hb : b.toNat = 237) (hs : t.length + 1 < 3) : SlowSays w (b :: t) := by
  have hlt := b.toNat_lt
  have hz : (str (b :: t)).size = t.length + 1 := by rw [strSize, List.length_cons]
  have hn : rneed b = 3 := by
    unfold rneed
    repeat' split
    all_goals omega
  have h0 := str_first b t
  have HD := Lib.hid (Dec.bad (rsize_few b t 3 hn hs))
  have hc := hT.first b.toNat hlt
  have hf : rfirst b.toNat = 35 := by
    unfold rfirst
    repeat' split
    all_goals omega
  rw [hf] at hc
  have ha0 : w.cell? ⟨1, 4, none⟩ = some (.int .u8 128) := hT.lo 2 (by decide)
  have ha1 : w.cell? ⟨1, 5, none⟩ = some (.int .u8 159) := hT.hi 2 (by decide)
  clear hT hn hf
  clear hb
  unfold SlowSays
  generalize b.toNat = B at *
  have hs' : ((t.length : Int) + 1) < 3 := by omega
  go_enter Tryd.func17, Tryd.ntmps17
  go_wp2
  all_goals (go_ret2; exact ⟨_, _, rfl, HD.out, (Below.refl _ _).alloc (Nat.le_refl _) _⟩)
set_option maxRecDepth 100000 in
set_option maxHeartbeats 4000000 in
theorem slow_long_ED (w : World) (hT : Tab w) (b x y : UInt8) (t : List UInt8) (hb : b.toNat = 237) : SlowSays w (b :: x :: y :: t) := by
  have hlt := b.toNat_lt
  have hz : (str (b :: x :: y :: t)).size = t.length + 3 := by rw [strSize]; rfl
  have hn : rneed b = 3 := by
    unfold rneed
    repeat' split
    all_goals omega
  have h0 := str_first b (x :: y :: t)
  have h1 : ∀ u, (Instr.index 9 (.string (str (b :: x :: y :: t))) (.int .i64 1)).run Tryd.prog u = .ok (.int .u8 (x.toNat : Int)) u := str_index (b :: x :: y :: t) 1 (by simp)
  have h2 : ∀ u, (Instr.index 9 (.string (str (b :: x :: y :: t))) (.int .i64 2)).run Tryd.prog u = .ok (.int .u8 (y.toNat : Int)) u := str_index (b :: x :: y :: t) 2 (by simp)
  have HS := Lib.hid (rsize_three b x y t hn)
  have hc := hT.first b.toNat hlt
  have hf : rfirst b.toNat = 35 := by
    unfold rfirst
    repeat' split
    all_goals omega
  rw [hf] at hc
  have ha0 : w.cell? ⟨1, 4, none⟩ = some (.int .u8 128) := hT.lo 2 (by decide)
  have ha1 : w.cell? ⟨1, 5, none⟩ = some (.int .u8 159) := hT.hi 2 (by decide)
  clear hT hn hf
  unfold SlowSays
  have hb' := Lib.hid hb
  clear hb
  obtain ⟨S, hS⟩ : ∃ S, rsize (b :: x :: y :: t) = S := ⟨_, rfl⟩
  obtain ⟨Ls, hL⟩ : ∃ Ls, b :: x :: y :: t = Ls := ⟨_, rfl⟩
  rw [hL] at hz h0 HS hS ⊢
  rw [hL] at h1
  rw [hL] at h2
  clear hL
  unfold rmore rnext at HS
  have hltx := x.toNat_lt
  have hlty := y.toNat_lt
  generalize b.toNat = B at *
  generalize x.toNat = X at *
  generalize y.toNat = Y at *
  go_enter Tryd.func17, Tryd.ntmps17
  go_wp2
  all_goals
    go_ret2
    refine ⟨_, _, rfl, ?_, (Below.refl _ _).alloc (Nat.le_refl _) _⟩
    have hs := HS.out
    have hb2 := hb'.out
    first
      | (refine Dec.bad ?_; rw [hs, if_neg]; omega)
      | (refine Dec.ok ?_ (by decide); rw [hs, if_pos]
         · rfl
         · omega)


set_option maxRecDepth 100000 in
set_option maxHeartbeats 4000000 in
theorem slow_short_F0 (w : World) (hT : Tab w) (b : UInt8) (t : List UInt8) (hb : b.toNat = 240) (hs : t.length + 1 < 4) : SlowSays w (b :: t) := by
  have hlt := b.toNat_lt
  have hz : (str (b :: t)).size = t.length + 1 := by rw [strSize, List.length_cons]
  have hn : rneed b = 4 := by
    unfold rneed
    repeat' split
    all_goals omega
  have h0 := str_first b t
  have HD := Lib.hid (Dec.bad (rsize_few b t 4 hn hs))
  have hc := hT.first b.toNat hlt
  have hf : rfirst b.toNat = 52 := by
    unfold rfirst
    repeat' split
    all_goals omega
  rw [hf] at hc
  have ha0 : w.cell? ⟨1, 6, none⟩ = some (.int .u8 144) := hT.lo 3 (by decide)
  have ha1 : w.cell? ⟨1, 7, none⟩ = some (.int .u8 191) := hT.hi 3 (by decide)
  clear hT hn hf
  clear hb
  unfold SlowSays
  generalize b.toNat = B at *
  have hs' : ((t.length : Int) + 1) < 4 := by omega
  go_enter Tryd.func17, Tryd.ntmps17
  go_wp2
  all_goals (go_ret2; exact ⟨_, _, rfl, HD.out, (Below.refl _ _).alloc (Nat.le_refl _) _⟩)
set_option maxRecDepth 100000 in
set_option maxHeartbeats 4000000 in
theorem slow_long_F0 (w : World) (hT : Tab w) (b x y z : UInt8) (t : List UInt8) (hb : b.toNat = 240) : SlowSays w (b :: x :: y :: z :: t) := by
  have hlt := b.toNat_lt
  have hz : (str (b :: x :: y :: z :: t)).size = t.length + 4 := by rw [strSize]; rfl
  have hn : rneed b = 4 := by
    unfold rneed
    repeat' split
    all_goals omega
  have h0 := str_first b (x :: y :: z :: t)
  have h1 : ∀ u, (Instr.index 9 (.string (str (b :: x :: y :: z :: t))) (.int .i64 1)).run Tryd.prog u = .ok (.int .u8 (x.toNat : Int)) u := str_index (b :: x :: y :: z :: t) 1 (by simp)
  have h2 : ∀ u, (Instr.index 9 (.string (str (b :: x :: y :: z :: t))) (.int .i64 2)).run Tryd.prog u = .ok (.int .u8 (y.toNat : Int)) u := str_index (b :: x :: y :: z :: t) 2 (by simp)
  have h3 : ∀ u, (Instr.index 9 (.string (str (b :: x :: y :: z :: t))) (.int .i64 3)).run Tryd.prog u = .ok (.int .u8 (z.toNat : Int)) u := str_index (b :: x :: y :: z :: t) 3 (by simp)
  have HS := Lib.hid (rsize_four' b x y z t hn)
  have hc := hT.first b.toNat hlt
  have hf : rfirst b.toNat = 52 := by
    unfold rfirst
    repeat' split
    all_goals omega
  rw [hf] at hc
  have ha0 : w.cell? ⟨1, 6, none⟩ = some (.int .u8 144) := hT.lo 3 (by decide)
  have ha1 : w.cell? ⟨1, 7, none⟩ = some (.int .u8 191) := hT.hi 3 (by decide)
  clear hT hn hf
  unfold SlowSays
  have hb' := Lib.hid hb
  clear hb
  obtain ⟨S, hS⟩ : ∃ S, rsize (b :: x :: y :: z :: t) = S := ⟨_, rfl⟩
  obtain ⟨Ls, hL⟩ : ∃ Ls, b :: x :: y :: z :: t = Ls := ⟨_, rfl⟩
  rw [hL] at hz h0 HS hS ⊢
  rw [hL] at h1
  rw [hL] at h2
  rw [hL] at h3
  clear hL
  unfold rmore rnext at HS
  have hltx := x.toNat_lt
  have hlty := y.toNat_lt
  have hltz := z.toNat_lt
  generalize b.toNat = B at *
  generalize x.toNat = X at *
  generalize y.toNat = Y at *
  generalize z.toNat = Z at *
  go_enter Tryd.func17, Tryd.ntmps17
  go_wp2
  all_goals
    go_ret2
    refine ⟨_, _, rfl, ?_, (Below.refl _ _).alloc (Nat.le_refl _) _⟩
    have hs := HS.out
    have hb2 := hb'.out
    first
      | (refine Dec.bad ?_; rw [hs, if_neg]; omega)
      | (refine Dec.ok ?_ (by decide); rw [hs, if_pos]
         · rfl
         · omega)


set_option maxRecDepth 100000 in
set_option maxHeartbeats 4000000 in
theorem slow_short_F1 (w : World) (hT : Tab w) (b : UInt8) (t : List UInt8) (hb : 241 ≤ b.toNat ∧ b.toNat < 244) (hs : t.length + 1 < 4) : SlowSays w (b :: t) := by
  have hlt := b.toNat_lt
  have hz : (str (b :: t)).size = t.length + 1 := by rw [strSize, List.length_cons]
  have hn : rneed b = 4 := by
    unfold rneed
    repeat' split
    all_goals omega
  have h0 := str_first b t
  have HD := Lib.hid (Dec.bad (rsize_few b t 4 hn hs))
  have hc := hT.first b.toNat hlt
  have hf : rfirst b.toNat = 4 := by
    unfold rfirst
    repeat' split
    all_goals omega
  rw [hf] at hc
  have ha0 : w.cell? ⟨1, 0, none⟩ = some (.int .u8 128) := hT.lo 0 (by decide)
  have ha1 : w.cell? ⟨1, 1, none⟩ = some (.int .u8 191) := hT.hi 0 (by decide)
  clear hT hn hf
  clear hb
  unfold SlowSays
  generalize b.toNat = B at *
  have hs' : ((t.length : Int) + 1) < 4 := by omega
  go_enter Tryd.func17, Tryd.ntmps17
  go_wp2
  all_goals (go_ret2; exact ⟨_, _, rfl, HD.out, (Below.refl _ _).alloc (Nat.le_refl _) _⟩)
set_option maxRecDepth 100000 in
set_option maxHeartbeats 4000000 in
theorem slow_long_F1 (w : World) (hT : Tab w) (b x y z : UInt8) (t : List UInt8) (hb : 241 ≤ b.toNat ∧ b.toNat < 244) : SlowSays w (b :: x :: y :: z :: t) := by
  have hlt := b.toNat_lt
  have hz : (str (b :: x :: y :: z :: t)).size = t.length + 4 := by rw [strSize]; rfl
  have hn : rneed b = 4 := by
    unfold rneed
    repeat' split
    all_goals omega
  have h0 := str_first b (x :: y :: z :: t)
  have h1 : ∀ u, (Instr.index 9 (.string (str (b :: x :: y :: z :: t))) (.int .i64 1)).run Tryd.prog u = .ok (.int .u8 (x.toNat : Int)) u := str_index (b :: x :: y :: z :: t) 1 (by simp)
  have h2 : ∀ u, (Instr.index 9 (.string (str (b :: x :: y :: z :: t))) (.int .i64 2)).run Tryd.prog u = .ok (.int .u8 (y.toNat : Int)) u := str_index (b :: x :: y :: z :: t) 2 (by simp)
  have h3 : ∀ u, (Instr.index 9 (.string (str (b :: x :: y :: z :: t))) (.int .i64 3)).run Tryd.prog u = .ok (.int .u8 (z.toNat : Int)) u := str_index (b :: x :: y :: z :: t) 3 (by simp)
  have HS := Lib.hid (rsize_four' b x y z t hn)
  have hc := hT.first b.toNat hlt
  have hf : rfirst b.toNat = 4 := by
    unfold rfirst
    repeat' split
    all_goals omega
  rw [hf] at hc
  have ha0 : w.cell? ⟨1, 0, none⟩ = some (.int .u8 128) := hT.lo 0 (by decide)
  have ha1 : w.cell? ⟨1, 1, none⟩ = some (.int .u8 191) := hT.hi 0 (by decide)
  clear hT hn hf
  unfold SlowSays
  have hb' := Lib.hid hb
  clear hb
  obtain ⟨S, hS⟩ : ∃ S, rsize (b :: x :: y :: z :: t) = S := ⟨_, rfl⟩
  obtain ⟨Ls, hL⟩ : ∃ Ls, b :: x :: y :: z :: t = Ls := ⟨_, rfl⟩
  rw [hL] at hz h0 HS hS ⊢
  rw [hL] at h1
  rw [hL] at h2
  rw [hL] at h3
  clear hL
  unfold rmore rnext at HS
  have hltx := x.toNat_lt
  have hlty := y.toNat_lt
  have hltz := z.toNat_lt
  generalize b.toNat = B at *
  generalize x.toNat = X at *
  generalize y.toNat = Y at *
  generalize z.toNat = Z at *
  go_enter Tryd.func17, Tryd.ntmps17
  go_wp2
  all_goals
    go_ret2
    refine ⟨_, _, rfl, ?_, (Below.refl _ _).alloc (Nat.le_refl _) _⟩
    have hs := HS.out
    have hb2 := hb'.out
    first
      | (refine Dec.bad ?_; rw [hs, if_neg]; omega)
      | (refine Dec.ok ?_ (by decide); rw [hs, if_pos]
         · rfl
         · omega)


set_option maxRecDepth 100000 in
set_option maxHeartbeats 4000000 in
theorem slow_short_F4 (w : World) (hT : Tab w) (b : UInt8) (t : List UInt8) (hb : b.toNat = 244) (hs : t.length + 1 < 4) : SlowSays w (b :: t) := by
  have hlt := b.toNat_lt
  have hz : (str (b :: t)).size = t.length + 1 := by rw [strSize, List.length_cons]
  have hn : rneed b = 4 := by
    unfold rneed
    repeat' split
    all_goals omega
  have h0 := str_first b t
  have HD := Lib.hid (Dec.bad (rsize_few b t 4 hn hs))
  have hc := hT.first b.toNat hlt
  have hf : rfirst b.toNat = 68 := by
    unfold rfirst
    repeat' split
    all_goals omega
  rw [hf] at hc
  have ha0 : w.cell? ⟨1, 8, none⟩ = some (.int .u8 128) := hT.lo 4 (by decide)
  have ha1 : w.cell? ⟨1, 9, none⟩ = some (.int .u8 143) := hT.hi 4 (by decide)
  clear hT hn hf
  clear hb
  unfold SlowSays
  generalize b.toNat = B at *
  have hs' : ((t.length : Int) + 1) < 4 := by omega
  go_enter Tryd.func17, Tryd.ntmps17
  go_wp2
  all_goals (go_ret2; exact ⟨_, _, rfl, HD.out, (Below.refl _ _).alloc (Nat.le_refl _) _⟩)
set_option maxRecDepth 100000 in
set_option maxHeartbeats 4000000 in
theorem slow_long_F4 (w : World) (hT : Tab w) (b x y z : UInt8) (t : List UInt8) (hb : b.toNat = 244) : SlowSays w (b :: x :: y :: z :: t) := by
  have hlt := b.toNat_lt
  have hz : (str (b :: x :: y :: z :: t)).size = t.length + 4 := by rw [strSize]; rfl
  have hn : rneed b = 4 := by
    unfold rneed
    repeat' split
    all_goals omega
  have h0 := str_first b (x :: y :: z :: t)
  have h1 : ∀ u, (Instr.index 9 (.string (str (b :: x :: y :: z :: t))) (.int .i64 1)).run Tryd.prog u = .ok (.int .u8 (x.toNat : Int)) u := str_index (b :: x :: y :: z :: t) 1 (by simp)
  have h2 : ∀ u, (Instr.index 9 (.string (str (b :: x :: y :: z :: t))) (.int .i64 2)).run Tryd.prog u = .ok (.int .u8 (y.toNat : Int)) u := str_index (b :: x :: y :: z :: t) 2 (by simp)
  have h3 : ∀ u, (Instr.index 9 (.string (str (b :: x :: y :: z :: t))) (.int .i64 3)).run Tryd.prog u = .ok (.int .u8 (z.toNat : Int)) u := str_index (b :: x :: y :: z :: t) 3 (by simp)
  have HS := Lib.hid (rsize_four' b x y z t hn)
  have hc := hT.first b.toNat hlt
  have hf : rfirst b.toNat = 68 := by
    unfold rfirst
    repeat' split
    all_goals omega
  rw [hf] at hc
  have ha0 : w.cell? ⟨1, 8, none⟩ = some (.int .u8 128) := hT.lo 4 (by decide)
  have ha1 : w.cell? ⟨1, 9, none⟩ = some (.int .u8 143) := hT.hi 4 (by decide)
  clear hT hn hf
  unfold SlowSays
  have hb' := Lib.hid hb
  clear hb
  obtain ⟨S, hS⟩ : ∃ S, rsize (b :: x :: y :: z :: t) = S := ⟨_, rfl⟩
  obtain ⟨Ls, hL⟩ : ∃ Ls, b :: x :: y :: z :: t = Ls := ⟨_, rfl⟩
  rw [hL] at hz h0 HS hS ⊢
  rw [hL] at h1
  rw [hL] at h2
  rw [hL] at h3
  clear hL
  unfold rmore rnext at HS
  have hltx := x.toNat_lt
  have hlty := y.toNat_lt
  have hltz := z.toNat_lt
  generalize b.toNat = B at *
  generalize x.toNat = X at *
  generalize y.toNat = Y at *
  generalize z.toNat = Z at *
  go_enter Tryd.func17, Tryd.ntmps17
  go_wp2
  all_goals
    go_ret2
    refine ⟨_, _, rfl, ?_, (Below.refl _ _).alloc (Nat.le_refl _) _⟩
    have hs := HS.out
    have hb2 := hb'.out
    first
      | (refine Dec.bad ?_; rw [hs, if_neg]; omega)
      | (refine Dec.ok ?_ (by decide); rw [hs, if_pos]
         · rfl
         · omega)


theorem slow_any (w : World) (hT : Tab w) (l : List UInt8) (hl : ∀ b t, l = b :: t → 128 ≤ b.toNat) : SlowSays w l := by
  match l, hl with
  | [], _ => exact slow_nil w
  | b :: t, hl =>
    have h128 := hl b t rfl
    have hlt := b.toNat_lt
    by_cases h1 : rfirst b.toNat = 241
    · exact slow_bad w hT b t h1
    · have hc : (194 ≤ b.toNat ∧ b.toNat < 224) ∨ b.toNat = 224 ∨ ((225 ≤ b.toNat ∧ b.toNat < 237) ∨ (238 ≤ b.toNat ∧ b.toNat < 240)) ∨ b.toNat = 237 ∨ b.toNat = 240 ∨ (241 ≤ b.toNat ∧ b.toNat < 244) ∨ b.toNat = 244 := by
        unfold rfirst at h1
        repeat' split at h1
        all_goals omega
      rcases hc with h | h | h | h | h | h | h

      · match t with
        | [] => exact slow_short_2 w hT b _ h (by simp)
        | x :: t => exact slow_long_2 w hT b x t h

      · match t with
        | [] => exact slow_short_E0 w hT b _ h (by simp)
        | [x] => exact slow_short_E0 w hT b _ h (by simp)
        | x :: y :: t => exact slow_long_E0 w hT b x y t h

      · match t with
        | [] => exact slow_short_E1 w hT b _ h (by simp)
        | [x] => exact slow_short_E1 w hT b _ h (by simp)
        | x :: y :: t => exact slow_long_E1 w hT b x y t h

      · match t with
        | [] => exact slow_short_ED w hT b _ h (by simp)
        | [x] => exact slow_short_ED w hT b _ h (by simp)
        | x :: y :: t => exact slow_long_ED w hT b x y t h

      · match t with
        | [] => exact slow_short_F0 w hT b _ h (by simp)
        | [x] => exact slow_short_F0 w hT b _ h (by simp)
        | [x, y] => exact slow_short_F0 w hT b _ h (by simp)
        | x :: y :: z :: t => exact slow_long_F0 w hT b x y z t h

      · match t with
        | [] => exact slow_short_F1 w hT b _ h (by simp)
        | [x] => exact slow_short_F1 w hT b _ h (by simp)
        | [x, y] => exact slow_short_F1 w hT b _ h (by simp)
        | x :: y :: z :: t => exact slow_long_F1 w hT b x y z t h

      · match t with
        | [] => exact slow_short_F4 w hT b _ h (by simp)
        | [x] => exact slow_short_F4 w hT b _ h (by simp)
        | [x, y] => exact slow_short_F4 w hT b _ h (by simp)
        | x :: y :: z :: t => exact slow_long_F4 w hT b x y z t h


set_option maxRecDepth 100000 in
set_option maxHeartbeats 2000000 in
/-- unicode/utf8.DecodeRuneInString. -/
theorem decode_any (w : World) (hT : Tab w) (l : List UInt8) : Calls Tryd.prog 15 #[.string (str l)] w fun e w' => ∃ R K : Int, e = .returned (.tuple #[.int .i32 R, .int .i64 K]) ∧ Dec l R K ∧ Below w.heap.size w w' := by
  have hn := str_toList
  match l with
  | [] =>
    have HS := slow_nil w
    unfold SlowSays at HS
    go_enter Tryd.func15, Tryd.ntmps15
    go_wp2_with fail
    refine HS.mono ?_
    rintro e w1 ⟨R, K, rfl, hD, hb⟩
    have HD := Lib.hid hD
    clear hD
    go_wp2_with fail
    go_ret2
    exact ⟨R, K, rfl, HD.out, hb⟩
  | b :: t =>
    have hz : (str (b :: t)).size = t.length + 1 := by rw [strSize, List.length_cons]
    have h0 := str_first b t
    have hlt := b.toNat_lt
    by_cases h : b.toNat < 128
    · have HD := Lib.hid (show Dec (b :: t) (b.toNat : Int) 1 from .inr ⟨by omega, by rw [rsize_small t h]; rfl⟩)
      generalize b.toNat = B at *
      have h' : (B : Int) < 128 := by omega
      go_enter Tryd.func15, Tryd.ntmps15
      go_wp2_with fail
      go_ret2
      exact ⟨_, _, rfl, HD.out, Below.refl _ _⟩
    · have HS := slow_any w hT (b :: t) (fun b' t' e => by obtain ⟨rfl, rfl⟩ := List.cons.inj e; omega)
      unfold SlowSays at HS
      have h' : ¬ ((b.toNat : Nat) : Int) < 128 := by omega
      generalize b.toNat = B at *
      go_enter Tryd.func15, Tryd.ntmps15
      go_wp2_with fail
      refine HS.mono ?_
      rintro e w1 ⟨R, K, rfl, hD, hb⟩
      have HD := Lib.hid hD
      clear hD
      go_wp2_with fail
      go_ret2
      exact ⟨R, K, rfl, HD.out, hb⟩
end Go.Proofs.YtbcokjhmfbfekaaDoor
