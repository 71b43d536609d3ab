/- The bodies of records: the contracts of those that read a varint or a text, of fixed and of bodyOf. Conditions: fewer than 2^46 bytes; the errors' variables hold what the program's text lays. -/
import Derived.Test.YtlndejanojgjlaaDoorProg
import Derived.Test.YtlndejanojgjlaaDoorMem
import Derived.Test.YtlndejanojgjlaaDoorRet
import Derived.Test.YtlndejanojgjlaaDoorRec
import Derived.Laws.EntriesVeiled
import Derived.Laws.ByValue
namespace Go.Proofs.YtlndejanojgjlaaDoor
open Go.RowKit

theorem Blk.ne {w : World} {g g' : Nat} {t t' : TypeId} {cs cs' : List Value} (h : Blk w g t cs) (h' : Blk w g' t' cs') (hl : cs.length ≠ cs'.length) : g ≠ g' := by
  rintro rfl
  unfold Blk at h h'
  rw [h] at h'
  injection h' with h'
  injection h' with h1 _
  have h2 : cs = cs' := by simpa using h1
  exact hl (by rw [h2])

set_option maxRecDepth 100000 in
set_option maxHeartbeats 1000000 in
theorem readVarint_any (w : World) (A : Nat → Addr) (hE : Errs w A) (r : Nat) (n k : Int) (p : Option Addr) (m : List UInt8) (c B : Nat) (hm : m.length ≤ 70368744177664) (hc : m.length ≤ c) (hs : Sl w B p m)
    (hr : Blk w r 29 (recCells n k 0 [] [])) :
    Calls Tryd.prog 38 #[.pointer (some ⟨r, 0, none⟩), .slice p m.length c] w (Readed w A r n k ((vparse m).1, [], (vparse m).2.1, (vparse m).2.2)) := by
  have HP := Lib.hid (vParse_any w A p m c B hm hc hs (fun _ => hE.two))
  generalize vparse m = V at *
  obtain ⟨x, s, b⟩ := V
  simp only at HP
  obtain ⟨v, hv⟩ : ∃ v, v = errOf A b := ⟨_, rfl⟩
  rw [← hv] at HP
  have HV := Lib.hid hv
  clear hv hE
  go_enter Tryd.func38, Tryd.ntmps38
  go_wp2_with fail
  refine HP.out.mono ?_
  rintro e w1 ⟨rfl, j, rfl⟩
  have hr2 := hr.drewN j
  have c2 := hr2.cell 2
  simp only [recCells, List.getElem?_cons_zero, List.getElem?_cons_succ] at c2
  have f2 := hr2.frozen 2
  have hr3 := hr2.set_ 2 (.int .u64 (x : Int))
  have hg3 := only_setCell (p := ⟨r, 2, none⟩) (g := r) (only_of_below (below_drewN (Below.refl w.heap.size w) j) _) (.inl rfl) (.int .u64 (x : Int))
  clear HP hr2 hr
  go_wp2_with fail
  go_ret2
  exact ⟨s, x, [], by rw [HV.out]; rfl, fun _ => ⟨rfl, rfl, rfl⟩, hr3, hg3⟩

theorem grown_drewN (w : World) (i j : Nat) (row : Option Nat) : w.grownBy ((w.drewN i).drewN j) row := ⟨rfl, rfl, rfl, Nat.le_refl _, fun _ _ _ => rfl⟩

/-- What a text's varint is parsed as, short. -/
abbrev PV (w : World) (p : Option Addr) (m : List UInt8) (c x s : Nat) (v : Value) : Prop :=
  Calls Tryd.prog 37 #[.slice p m.length c] w fun e w' => e = .returned (.tuple #[.int .u64 (x : Int), .int .i64 (s : Int), v]) ∧ ∃ j, w' = w.drewN j

set_option maxRecDepth 100000 in
set_option maxHeartbeats 1000000 in
theorem readText_bad (w : World) (A : Nat → Addr) (r : Nat) (n k : Int) (p : Option Addr) (m : List UInt8) (c x s b : Nat) (HP : Hid (PV w p m c x s (errV A b))) (hr : Blk w r 29 (recCells n k 0 [] [])) :
    Calls Tryd.prog 46 #[.pointer (some ⟨r, 0, none⟩), .slice p m.length c] w (Readed w A r n k (0, [], 0, b + 1)) := by
  have hne := neq_errV A b
  go_enter Tryd.func46, Tryd.ntmps46
  go_wp2_with fail
  refine HP.out.mono ?_
  rintro e w1 ⟨rfl, j, rfl⟩
  go_wp2_with fail
  go_ret2
  exact ⟨0, 0, [], rfl, fun h => (by simp at h), hr, grown_drewN w j 0 _⟩

set_option maxRecDepth 100000 in
set_option maxHeartbeats 1000000 in
theorem readText_short (w : World) (A : Nat → Addr) (h2 : Two w A) (r : Nat) (n k : Int) (p : Option Addr) (m : List UInt8) (c x s : Nat) (hm : m.length ≤ 70368744177664) (hs : s ≤ m.length) (hx : m.length - s < x) (HP : Hid (PV w p m c x s .nilIface)) (hr : Blk w r 29 (recCells n k 0 [] [])) :
    Calls Tryd.prog 46 #[.pointer (some ⟨r, 0, none⟩), .slice p m.length c] w (Readed w A r n k (0, [], 0, 2)) := by
  have e2 : ∀ u, (w.drewN u).cell? ⟨3, 0, none⟩ = some (errV A 1) := fun u => h2.short
  go_enter Tryd.func46, Tryd.ntmps46
  go_wp2_with fail
  refine HP.out.mono ?_
  rintro e w1 ⟨rfl, j, rfl⟩
  go_wp2_with fail
  all_goals
    go_quiet (fail)
    go_wp2_with fail
    go_ret2
    exact ⟨0, 0, [], rfl, fun h => (by cases h), hr, grown_drewN w _ _ _⟩

set_option maxRecDepth 100000 in
set_option maxHeartbeats 1000000 in
theorem readText_none (w : World) (A : Nat → Addr) (r : Nat) (n k : Int) (p : Option Addr) (m : List UInt8) (s : Nat) (hm : m.length ≤ 70368744177664) (hs : s ≤ m.length) (hc : m.length ≤ s) (HP : Hid (PV w p m s 0 s .nilIface)) (hr : Blk w r 29 (recCells n k 0 [] [])) :
    Calls Tryd.prog 46 #[.pointer (some ⟨r, 0, none⟩), .slice p m.length s] w (Readed w A r n k (0, [], s, 0)) := by
  have hcv : ∀ (q : Nat) (cc : Nat) (pp : Option Addr), (convert 22 9 (.slice pp 0 cc)).run Tryd.prog (w.drewN q) = .ok (.string (str [])) (w.drewN q) := fun q cc pp => Sl.string (w := w.drewN q) (B := 0) (p := pp) (l := []) (Sl.nil _ _ _) cc
  have hsz2 : ((str []).size : Int) = 0 := rfl
  have hc3 := fun q => (hr.drewN q).cell 3
  simp only [recCells, List.getElem?_cons_zero, List.getElem?_cons_succ] at hc3
  have hf3 := fun q => (hr.drewN q).frozen 3
  have hr3 := fun q => (hr.drewN q).set_ 3 (.string (str []))
  have hg3 := fun q => only_setCell (p := ⟨r, 3, none⟩) (g := r) (only_of_below (below_drewN (Below.refl w.heap.size w) q) _) (.inl rfl) (.string (str []))
  go_enter Tryd.func46, Tryd.ntmps46
  go_wp2_with fail
  refine HP.out.mono ?_
  rintro e w1 ⟨rfl, j, rfl⟩
  go_wp2_with fail
  go_ret2
  exact ⟨_, 0, [], rfl, fun _ => ⟨rfl, rfl, rfl⟩, hr3 _, hg3 _⟩

set_option maxRecDepth 100000 in
set_option maxHeartbeats 1000000 in
theorem readText_ok (w : World) (A : Nat → Addr) (r : Nat) (n k : Int) (ba o : Nat) (m t : List UInt8) (c x s : Nat) (hm : m.length ≤ 70368744177664) (hc : m.length ≤ c) (hs : s ≤ m.length) (hx : x ≤ m.length - s) (hsc : s < c)
    (hcv : ∀ (q : Nat) (cc : Nat), (convert 22 9 (.slice (some ⟨ba, o + s, none⟩) x cc)).run Tryd.prog (w.drewN q) = .ok (.string (str t)) (w.drewN q)) (htl : Hid (t.length = x)) (HP : Hid (PV w (some ⟨ba, o, none⟩) m c x s .nilIface)) (hr : Blk w r 29 (recCells n k 0 [] [])) :
    Calls Tryd.prog 46 #[.pointer (some ⟨r, 0, none⟩), .slice (some ⟨ba, o, none⟩) m.length c] w (Readed w A r n k (0, t, s + x, 0)) := by
  have hx3 : (x : Int) ≤ ((c - s : Nat) : Int) := by omega
  have hsz2 : ((str t).size : Int) = (x : Int) := by rw [strSize, htl.out]
  have hc3 := fun q => (hr.drewN q).cell 3
  simp only [recCells, List.getElem?_cons_zero, List.getElem?_cons_succ] at hc3
  have hf3 := fun q => (hr.drewN q).frozen 3
  have hr3 := fun q => (hr.drewN q).set_ 3 (.string (str t))
  have hg3 := fun q => only_setCell (p := ⟨r, 3, none⟩) (g := r) (only_of_below (below_drewN (Below.refl w.heap.size w) q) _) (.inl rfl) (.string (str t))
  have hcs : ¬ c = s := by omega
  have hcs' : ¬ s = c := by omega
  have hxn : ¬ (m.length - s < x) := by omega
  go_enter Tryd.func46, Tryd.ntmps46
  go_wp2_with fail
  refine HP.out.mono ?_
  rintro e w1 ⟨rfl, j, rfl⟩
  go_wp2_with fail
  go_ret2
  exact ⟨_, 0, t, rfl, fun _ => ⟨rfl, rfl, rfl⟩, hr3 _, hg3 _⟩

set_option maxRecDepth 100000 in
theorem readText_any (w : World) (A : Nat → Addr) (hE : Errs w A) (r : Nat) (n k : Int) (p : Option Addr) (m : List UInt8) (c B : Nat) (hm : m.length ≤ 70368744177664) (hc : m.length ≤ c) (hs : Sl w B p m)
    (hr : Blk w r 29 (recCells n k 0 [] [])) :
    Calls Tryd.prog 46 #[.pointer (some ⟨r, 0, none⟩), .slice p m.length c] w (Readed w A r n k (rbody 2 m)) := by
  have HP := vParse_any w A p m c B hm hc hs (fun _ => hE.two)
  have hsz := fun h => vparse_size m h
  obtain ⟨R, hR⟩ : ∃ R, R = rbody 2 m := ⟨_, rfl⟩
  rw [← hR]
  unfold rbody at hR
  rw [if_neg (by decide), if_neg (by decide)] at hR
  generalize vparse m = V at *
  obtain ⟨x, s, b⟩ := V
  simp only at HP hR hsz
  cases b with
  | succ b =>
    rw [if_pos (by omega)] at hR
    rw [hR]
    exact readText_bad w A r n k p m c x s b (Lib.hid HP) hr
  | zero =>
    have hsz := hsz rfl
    rw [if_neg (by omega), if_neg (by decide)] at hR
    by_cases hx : m.length - s < x
    · rw [if_pos hx] at hR
      rw [hR]
      exact readText_short w A hE.two r n k p m c x s hm (by omega) hx (Lib.hid HP) hr
    · rw [if_neg hx] at hR
      rw [hR]
      by_cases hcs : c = s
      · subst hcs
        obtain rfl : x = 0 := by omega
        exact readText_none w A r n k p m c hm (by omega) hc (Lib.hid HP) hr
      · obtain ⟨ba, o, rfl, hba, hcell⟩ := hs (by omega)
        have hst := Sl.cut (fun _ => ⟨ba, o, rfl, hba, hcell⟩ : Sl w B (some ⟨ba, o, none⟩) m) s x
        simp only [Option.map_some, Addr.add_lit] at hst
        have htl : ((m.drop s).take x).length = x := by simp; omega
        refine readText_ok w A r n k ba o m ((m.drop s).take x) c x s hm hc (by omega) (by omega) (by omega) (fun q cc => ?_) (Lib.hid htl) (Lib.hid HP) hr
        have := Sl.string (w := w.drewN q) (B := B) (p := some ⟨ba, o + s, none⟩) (l := (m.drop s).take x) hst cc
        rwa [htl] at this

/-- What fixed hands back: two closures, over what they caught. -/
def Fixed64 (w : World) (e : Ending) (w' : World) : Prop :=
  ∃ a b d, e = .returned (.agg #[.func (.func 54) #[] #[.pointer (some ⟨a, 0, none⟩), .pointer (some ⟨b, 0, none⟩)], .func (.func 56) #[] #[.pointer (some ⟨d, 0, none⟩)]]) ∧
    Blk w' a 89 [.func (.func 41) #[] #[]] ∧ Blk w' b 3 [.int .i64 8] ∧ Blk w' d 92 [.func (.func 42) #[] #[]] ∧ Below w.heap.size w w'
set_option maxRecDepth 100000 in
set_option maxHeartbeats 1000000 in
theorem fixed64_body (w : World) : Calls Tryd.prog 40 #[.int .i64 8, .func (.func 41) #[] #[], .func (.func 42) #[] #[]] w (Fixed64 w) := by
  have hmf : ∀ (fn : Fn) (first cap : Array Value) (w : World), (Instr.makeFunc fn first cap).run Tryd.prog w = .ok (.func fn first cap) w := fun _ _ _ _ => rfl
  go_enter Tryd.func40, Tryd.ntmps40
  go_wp2_with fail
  have hsz : ∀ (u : World) (o : Obj), (u.alloc o).heap.size = u.heap.size + 1 := fun u o => by simp
  obtain ⟨w1, hw1⟩ : ∃ w1, w1 = w.alloc (Obj.cells #[Value.int IntKind.i64 8] 3) := ⟨_, rfl⟩
  have k1 : Blk w1 w.heap.size 3 [.int .i64 8] := hw1 ▸ Blk.new w _ _
  have z1 : w1.heap.size = w.heap.size + 1 := hw1 ▸ hsz _ _
  have b1 : Below w.heap.size w w1 := hw1 ▸ (Below.refl _ _).alloc (Nat.le_refl _) _
  rw [← hw1]
  obtain ⟨w2, hw2⟩ : ∃ w2, w2 = w1.alloc (Obj.cells #[Value.func (Fn.func 41) #[] #[]] 89) := ⟨_, rfl⟩
  have k2 : Blk w2 (w.heap.size + 1) 89 [.func (.func 41) #[] #[]] := hw2 ▸ z1 ▸ Blk.new w1 _ _
  have z2 : w2.heap.size = w.heap.size + 1 + 1 := by rw [hw2, hsz, z1]
  have b2 : Below w1.heap.size w1 w2 := hw2 ▸ (Below.refl _ _).alloc (Nat.le_refl _) _
  rw [← hw2]
  obtain ⟨w3, hw3⟩ : ∃ w3, w3 = w2.alloc (Obj.cells #[Value.func (Fn.func 42) #[] #[]] 92) := ⟨_, rfl⟩
  have k3 : Blk w3 (w.heap.size + 1 + 1) 92 [.func (.func 42) #[] #[]] := hw3 ▸ z2 ▸ Blk.new w2 _ _
  have z3 : w3.heap.size = w.heap.size + 1 + 1 + 1 := by rw [hw3, hsz, z2]
  have b3 : Below w2.heap.size w2 w3 := hw3 ▸ (Below.refl _ _).alloc (Nat.le_refl _) _
  rw [← hw3]
  have h4 := fun cs : List Value => Blk.new w3 63 cs
  rw [z3] at h4
  have b4 := fun o => (Below.refl w3.heap.size w3).alloc (Nat.le_refl _) o
  have h13 := b1.trans ((b2.trans (b3.mono b2.size)).mono b1.size)
  refine bodyPost_ret (results_row0 rfl _ _ _ _ _ _ rfl (h4 [_, _]) Tryd.underlying63 (by kernel_rfl)) rfl ⟨_, _, _, rfl, ((k2.kept b3).kept (b4 _)), (((k1.kept b2).kept b3).kept (b4 _)), k3.kept (b4 _), h13.trans ((b4 _).mono h13.size)⟩

/-- What fixed hands back: two closures, over what they caught. -/
def Fixed32 (w : World) (e : Ending) (w' : World) : Prop :=
  ∃ a b d, e = .returned (.agg #[.func (.func 59) #[] #[.pointer (some ⟨a, 0, none⟩), .pointer (some ⟨b, 0, none⟩)], .func (.func 60) #[] #[.pointer (some ⟨d, 0, none⟩)]]) ∧
    Blk w' a 95 [.func (.func 44) #[] #[]] ∧ Blk w' b 3 [.int .i64 4] ∧ Blk w' d 97 [.func (.func 45) #[] #[]] ∧ Below w.heap.size w w'
set_option maxRecDepth 100000 in
set_option maxHeartbeats 1000000 in
theorem fixed32_body (w : World) : Calls Tryd.prog 43 #[.int .i64 4, .func (.func 44) #[] #[], .func (.func 45) #[] #[]] w (Fixed32 w) := by
  have hmf : ∀ (fn : Fn) (first cap : Array Value) (w : World), (Instr.makeFunc fn first cap).run Tryd.prog w = .ok (.func fn first cap) w := fun _ _ _ _ => rfl
  go_enter Tryd.func43, Tryd.ntmps43
  go_wp2_with fail
  have hsz : ∀ (u : World) (o : Obj), (u.alloc o).heap.size = u.heap.size + 1 := fun u o => by simp
  obtain ⟨w1, hw1⟩ : ∃ w1, w1 = w.alloc (Obj.cells #[Value.int IntKind.i64 4] 3) := ⟨_, rfl⟩
  have k1 : Blk w1 w.heap.size 3 [.int .i64 4] := hw1 ▸ Blk.new w _ _
  have z1 : w1.heap.size = w.heap.size + 1 := hw1 ▸ hsz _ _
  have b1 : Below w.heap.size w w1 := hw1 ▸ (Below.refl _ _).alloc (Nat.le_refl _) _
  rw [← hw1]
  obtain ⟨w2, hw2⟩ : ∃ w2, w2 = w1.alloc (Obj.cells #[Value.func (Fn.func 44) #[] #[]] 95) := ⟨_, rfl⟩
  have k2 : Blk w2 (w.heap.size + 1) 95 [.func (.func 44) #[] #[]] := hw2 ▸ z1 ▸ Blk.new w1 _ _
  have z2 : w2.heap.size = w.heap.size + 1 + 1 := by rw [hw2, hsz, z1]
  have b2 : Below w1.heap.size w1 w2 := hw2 ▸ (Below.refl _ _).alloc (Nat.le_refl _) _
  rw [← hw2]
  obtain ⟨w3, hw3⟩ : ∃ w3, w3 = w2.alloc (Obj.cells #[Value.func (Fn.func 45) #[] #[]] 97) := ⟨_, rfl⟩
  have k3 : Blk w3 (w.heap.size + 1 + 1) 97 [.func (.func 45) #[] #[]] := hw3 ▸ z2 ▸ Blk.new w2 _ _
  have z3 : w3.heap.size = w.heap.size + 1 + 1 + 1 := by rw [hw3, hsz, z2]
  have b3 : Below w2.heap.size w2 w3 := hw3 ▸ (Below.refl _ _).alloc (Nat.le_refl _) _
  rw [← hw3]
  have h4 := fun cs : List Value => Blk.new w3 63 cs
  rw [z3] at h4
  have b4 := fun o => (Below.refl w3.heap.size w3).alloc (Nat.le_refl _) o
  have h13 := b1.trans ((b2.trans (b3.mono b2.size)).mono b1.size)
  refine bodyPost_ret (results_row0 rfl _ _ _ _ _ _ rfl (h4 [_, _]) Tryd.underlying63 (by kernel_rfl)) rfl ⟨_, _, _, rfl, ((k2.kept b3).kept (b4 _)), (((k1.kept b2).kept b3).kept (b4 _)), k3.kept (b4 _), h13.trans ((b4 _).mono h13.size)⟩


/-- What bodyOf hands back for the kind k. -/
def Bodied (k : Nat) (w : World) (e : Ending) (w' : World) : Prop :=
  if k = 0 then e = .returned (.agg #[.func (.func 38) #[] #[], .func (.func 39) #[] #[]]) ∧ Below w.heap.size w w'
  else if k = 1 then Fixed64 w e w'
  else if k = 5 then Fixed32 w e w'
  else e = .returned (.agg #[.func (.func 46) #[] #[], .func (.func 47) #[] #[]]) ∧ Below w.heap.size w w'

set_option maxRecDepth 100000 in
theorem bodyOf0 (w : World) : Calls Tryd.prog 22 #[.int .i64 0] w fun e w' =>
    e = .returned (.agg #[.func (.func 38) #[] #[], .func (.func 39) #[] #[]]) ∧ Below w.heap.size w w' := by
  go_enter Tryd.func22, Tryd.ntmps22
  go_wp2_with fail
  refine bodyPost_ret (results_row0 rfl _ _ _ _ _ _ rfl (Blk.new w 63 [_, _]) Tryd.underlying63 (by kernel_rfl)) rfl ⟨rfl, (Below.refl _ _).alloc (Nat.le_refl _) _⟩
set_option maxRecDepth 100000 in
theorem bodyOf2 (w : World) : Calls Tryd.prog 22 #[.int .i64 2] w fun e w' =>
    e = .returned (.agg #[.func (.func 46) #[] #[], .func (.func 47) #[] #[]]) ∧ Below w.heap.size w w' := by
  go_enter Tryd.func22, Tryd.ntmps22
  go_wp2_with fail
  refine bodyPost_ret (results_row0 rfl _ _ _ _ _ _ rfl (Blk.new w 63 [_, _]) Tryd.underlying63 (by kernel_rfl)) rfl ⟨rfl, (Below.refl _ _).alloc (Nat.le_refl _) _⟩
set_option maxRecDepth 100000 in
theorem bodyOf1 (w : World) : Calls Tryd.prog 22 #[.int .i64 1] w (Fixed64 w) := by
  obtain ⟨w1, hw1⟩ : ∃ w1, w1 = w.alloc (.cells #[.nilFunc, .nilFunc] 63) := ⟨_, rfl⟩
  have hb1 : Below w.heap.size w w1 := hw1 ▸ (Below.refl _ _).alloc (Nat.le_refl _) _
  have hk1 : Blk w1 w.heap.size 63 [.nilFunc, .nilFunc] := hw1 ▸ Blk.new w _ _
  have HF := fixed64_body w1
  rw [hw1] at HF
  go_enter Tryd.func22, Tryd.ntmps22
  go_wp2_with fail
  refine HF.mono ?_
  rintro e w2 ⟨a, b, d, rfl, ha, hb, hd, hb2⟩
  rw [← hw1] at hb2
  have hk2 := hk1.kept hb2
  have c0 := hk2.cell 0
  have c1 := hk2.cell 1
  simp only [List.getElem?_cons_zero, List.getElem?_cons_succ] at c0 c1
  have f0 := hk2.frozen 0
  have f1 := hk2.frozen 1
  have h02 := hb1.trans (hb2.mono hb1.size)
  clear HF hw1
  have na := ha.ne hk2 (by simp)
  have nb := hb.ne hk2 (by simp)
  have nd := hd.ne hk2 (by simp)
  have F1 := Lib.hid na
  have F2 := Lib.hid nb
  have F3 := Lib.hid nd
  clear na nb nd
  go_wp2_with fail
  refine bodyPost_ret (results_row0 rfl _ _ _ _ _ _ rfl ((hk2.set_ 0 _).set_ 1 _) Tryd.underlying63 (by kernel_rfl)) rfl ⟨_, _, _, rfl, (ha.far F1.out _).far F1.out _, (hb.far F2.out _).far F2.out _, (hd.far F3.out _).far F3.out _, (h02.setCell (Nat.le_refl _) _).setCell (Nat.le_refl _) _⟩
set_option maxRecDepth 100000 in
theorem bodyOf5 (w : World) : Calls Tryd.prog 22 #[.int .i64 5] w (Fixed32 w) := by
  obtain ⟨w1, hw1⟩ : ∃ w1, w1 = w.alloc (.cells #[.nilFunc, .nilFunc] 63) := ⟨_, rfl⟩
  have hb1 : Below w.heap.size w w1 := hw1 ▸ (Below.refl _ _).alloc (Nat.le_refl _) _
  have hk1 : Blk w1 w.heap.size 63 [.nilFunc, .nilFunc] := hw1 ▸ Blk.new w _ _
  have HF := fixed32_body w1
  rw [hw1] at HF
  go_enter Tryd.func22, Tryd.ntmps22
  go_wp2_with fail
  refine HF.mono ?_
  rintro e w2 ⟨a, b, d, rfl, ha, hb, hd, hb2⟩
  rw [← hw1] at hb2
  have hk2 := hk1.kept hb2
  have c0 := hk2.cell 0
  have c1 := hk2.cell 1
  simp only [List.getElem?_cons_zero, List.getElem?_cons_succ] at c0 c1
  have f0 := hk2.frozen 0
  have f1 := hk2.frozen 1
  have h02 := hb1.trans (hb2.mono hb1.size)
  clear HF hw1
  have na := ha.ne hk2 (by simp)
  have nb := hb.ne hk2 (by simp)
  have nd := hd.ne hk2 (by simp)
  have F1 := Lib.hid na
  have F2 := Lib.hid nb
  have F3 := Lib.hid nd
  clear na nb nd
  go_wp2_with fail
  refine bodyPost_ret (results_row0 rfl _ _ _ _ _ _ rfl ((hk2.set_ 0 _).set_ 1 _) Tryd.underlying63 (by kernel_rfl)) rfl ⟨_, _, _, rfl, (ha.far F1.out _).far F1.out _, (hb.far F2.out _).far F2.out _, (hd.far F3.out _).far F3.out _, (h02.setCell (Nat.le_refl _) _).setCell (Nat.le_refl _) _⟩

end Go.Proofs.YtlndejanojgjlaaDoor
