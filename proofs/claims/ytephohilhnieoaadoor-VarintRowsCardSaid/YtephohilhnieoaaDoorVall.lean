/- The contracts of varint.All, redlineref02.All and redlinenum.SameNumbers: all numbers of bytes, or the first error. Conditions: fewer than 2^40 bytes; where the answer is an error, the errors' variables hold what the program's text lays. -/
import Derived.Test.YtephohilhnieoaaDoorProg
import Derived.Test.YtephohilhnieoaaDoorMem
import Derived.Test.YtephohilhnieoaaDoorRow
import Derived.Test.YtephohilhnieoaaDoorVscan
import Derived.Test.YtephohilhnieoaaDoorVparse
import Derived.Deep.QuietTactic
import Derived.BigQuiet
import Derived.WalkSpells
namespace Go.Proofs.YtephohilhnieoaaDoor
open Go.RowKit

/-- All numbers of bytes; the error's number. -/
def vall (l : List UInt8) : List Nat × Nat :=
  if _h0 : l = [] then ([], 0)
  else if _h : (vparse l).2.2 = 0 then
    if (vall (l.drop (vparse l).2.1)).2 = 0 then ((vparse l).1 :: (vall (l.drop (vparse l).2.1)).1, 0) else ([], (vall (l.drop (vparse l).2.1)).2)
  else ([], (vparse l).2.2)
termination_by l.length
decreasing_by all_goals (have := vparse_size l _h; simp; omega)

def joinR (out : List Nat) (r : List Nat × Nat) : List Nat × Nat := if r.2 = 0 then (out ++ r.1, 0) else ([], r.2)
theorem joinR_ok (out : List Nat) : joinR out ([], 0) = (out, 0) := by simp [joinR]
theorem joinR_bad (out : List Nat) (b : Nat) (h : b ≠ 0) : joinR out ([], b) = ([], b) := by simp [joinR, h]
theorem joinR_join (a b : List Nat) (r : List Nat × Nat) : joinR a (joinR b r) = joinR (a ++ b) r := by
  unfold joinR
  by_cases h : r.2 = 0
  · simp [h]
  · simp [h]
theorem vall_nil : vall [] = ([], 0) := by rw [vall]; simp
theorem vall_step {l : List UInt8} (h0 : 0 < l.length) (h : (vparse l).2.2 = 0) : vall l = joinR [(vparse l).1] (vall (l.drop (vparse l).2.1)) := by
  rw [vall, dif_neg (by rintro rfl; simp at h0), dif_pos h]
  rfl
theorem vall_bad {l : List UInt8} (h0 : 0 < l.length) (h : (vparse l).2.2 ≠ 0) : vall l = ([], (vparse l).2.2) := by
  rw [vall, dif_neg (by rintro rfl; simp at h0), dif_neg h]
theorem vall_norm (l : List UInt8) : joinR [] (vall l) = vall l := by
  by_cases h0 : 0 < l.length
  · by_cases h : (vparse l).2.2 = 0
    · rw [vall_step h0 h, joinR_join]
      rfl
    · rw [vall_bad h0 h]
      simp [joinR, h]
  · obtain rfl : l = [] := List.eq_nil_of_length_eq_zero (by omega)
    rw [vall_nil]
    rfl
/-- Numbers that are put one behind the other are all parsed as they were. -/
theorem vall_vputs : ∀ (ns : List Nat), (∀ n ∈ ns, n < 18446744073709551616) → vall (vputs ns) = (ns, 0)
  | [], _ => vall_nil
  | n :: ns, h => by
    have e : vputs (n :: ns) = vput n ++ vputs ns := by simp [vputs]
    have hp := vparse_vput n (vputs ns) (h n (by simp))
    have hl := vput_pos n
    rw [e, vall_step (by simp; omega) (by rw [hp]), hp]
    simp only [List.drop_left]
    rw [vall_vputs ns fun m hm => h m (by simp [hm])]
    simp [joinR]

theorem info64 : (Tryd.prog.info? 25).map (fun i => (i.zero, i.size, i.bytes)) = some (some (.int .u64 0), 1, 8) := by kernel_rfl
theorem neq_errV (A : Nat → Addr) (b : Nat) (u : World) : (binOp .neq 27 (errV A b) .nilIface).run Tryd.prog u = .ok (.bool true) u := run_neq_held_nil (P := Tryd.prog) u 27 tE (.pointer (some (A b))) (by kernel_rfl)
/-- A result of two: a row of the call's own, of the numbers, and the error. -/
def Nums (w : World) (A : Nat → Addr) (r : List Nat × Nat) (e : Ending) (w' : World) : Prop :=
  ∃ v, e = .returned (.tuple #[v, errOf A r.2]) ∧ w'.ownsRow w.heap.size 25 1 v r.1.length (r.1.map uv) ∧ Below w.heap.size w w'

set_option maxRecDepth 100000 in
set_option maxHeartbeats 2000000 in
theorem vAll_any (w : World) (A : Nat → Addr) (p : Option Addr) (l : List UInt8) (c B : Nat) (hl : l.length ≤ 1099511627776) (hc : l.length ≤ c) (hcm : c ≤ maxLen) (hB : B ≤ w.heap.size) (hs : Sl w B p l) (hG : (vall l).2 ≠ 0 → ∀ w', Below w.heap.size w w' → Two w' A) :
    Calls Tryd.prog 12 #[.slice p l.length c] w (Nums w A (vall l)) := by
  obtain ⟨i0, hi, hz0, hz1, hz2⟩ := info_parts info64
  obtain ⟨R, hR⟩ : ∃ R, R = vall l := ⟨_, rfl⟩
  rw [← hR] at hG ⊢
  have HR := Lib.hid hR
  have HG := Lib.hid hG
  clear hR hG
  go_enter Tryd.func12, Tryd.ntmps12
  go_wp2_with fail
  go_loopw [4, 0] (fun v x wr => ∃ (q : Option Addr) (m : List UInt8) (d : Nat) (out : List Nat), x = .slice q m.length d ∧ m.length ≤ d ∧ d ≤ maxLen ∧ m.length + out.length ≤ l.length ∧ Hid (R = joinR out (vall m)) ∧ Sl wr B q m ∧ wr.ownsRow w.heap.size 25 1 v out.length (out.map uv) ∧ Below w.heap.size w wr) (fun _ x _ => match x with | .slice _ n _ => n | _ => 0)
  case atStart => exact ⟨p, l, c, [], rfl, hc, hcm, by simp, Lib.hid (HR.out.trans (vall_norm l).symm), hs, World.ownsRow_nil _ _ _ _, Below.refl _ _⟩
  case round =>
    obtain ⟨q, m, d, out, rfl, hmd, hdm, hml, HJ, hsm, hownr, hbr⟩ := hrel
    have hsz := hbr.size
    by_cases h0 : 0 < m.length
    · by_cases hok : (vparse m).2.2 = 0
      · have hsize := vparse_size m hok
        have HS := Lib.hid (vall_step h0 hok)
        have HP := Lib.hid (vParse_any wr A q m d B (by omega) hmd hsm (fun h => absurd hok h))
        have HB := Lib.hid (hsm.behind (vparse m).2.1 d hmd)
        rw [hok, show errOf A 0 = Value.nilIface from rfl] at HP
        generalize vparse m = r at *
        obtain ⟨n, s, b⟩ := r
        simp only at HS HP HB hsize hok
        have hs1 : s ≤ d := by omega
        go_wp2_with fail
        refine HP.out.mono ?_
        rintro e w1 ⟨rfl, n1, rfl⟩
        have hownd : (wr.drewN n1).ownsRow w.heap.size 25 1 _ out.length (out.map uv) := hownr
        have hbd : Below w.heap.size w (wr.drewN n1) := below_drewN hbr n1
        go_wp2_with (at_builtin; go_must (refine wpList_append_own_at _ rfl (.tmp 20) (.tmp 22) 33 rfl w.heap.size 25 i0 (.int .u64 0) 1 8 Tryd.underlying33 hi hz0 hz1 hz2 rfl (by decide) _ _ _ rfl (World.ownsRow.alloc hownd _) ⟨wr.heap.size, 0, none⟩ 1 1 [uv n] rfl rfl (cell_one_new _ _ _) (by simp [uv, Value.oneCell']) (by unfold maxLen; omega) (by omega) (by simp; omega) ?_); intro v3 w3 hown3 hg3 hn3 ha3)
        have hb3 := (hbd.alloc (by exact hsz) _).grown hg3 (by simp; omega) (fun g h => (hownd.lt g h).1)
        have hB3 : Below B wr w3 := ((below_drewN (Below.refl B wr) n1).alloc (Nat.le_trans hB hsz) _).grown hg3 (by simp; omega) (fun g h => Nat.le_trans hB (hownd.lt g h).1)
        have hown4 : w3.ownsRow w.heap.size 25 1 v3 (out ++ [n]).length ((out ++ [n]).map uv) := by
          rw [List.length_append, List.map_append]; exact hown3
        have hs3 := HB.out.below hB3
        have HJ' := Lib.hid (show R = joinR (out ++ [n]) (vall (m.drop s)) by rw [HJ.out, HS.out, joinR_join])
        clear hown3 hg3 hn3 ha3
        go_roundw
        case rel => exact ⟨_, m.drop s, d - s, out ++ [n], by rw [List.length_drop], by rw [List.length_drop]; omega, by omega, by rw [List.length_drop, List.length_append]; simp; omega, HJ', hs3, hown4, hb3⟩
        case measure => show m.length - s < m.length; omega
      · obtain ⟨b, hb⟩ : ∃ b, (vparse m).2.2 = b + 1 := ⟨_, (Nat.sub_add_cancel (Nat.pos_of_ne_zero hok)).symm⟩
        have hR : R = ([], b + 1) := by rw [HJ.out, vall_bad h0 hok, hb, joinR_bad _ _ (by omega)]
        have HP := Lib.hid (vParse_any wr A q m d B (by omega) hmd hsm (fun _ => HG.out (by rw [hR]; simp) wr hbr))
        rw [hb, show errOf A (b + 1) = errV A b from rfl] at HP
        have hne := neq_errV A b
        have H4 := Lib.hid hR
        clear hR HR HJ HG hb
        go_wp2_with fail
        refine HP.out.mono ?_
        rintro e w1 ⟨rfl, n1, rfl⟩
        go_wp2_with fail
        go_ret2
        rw [H4.out]
        exact ⟨_, rfl, World.ownsRow_nil _ _ _ _, below_drewN hbr n1⟩
    · obtain rfl : m = [] := List.eq_nil_of_length_eq_zero (by omega)
      have hR : R = (out, 0) := HJ.out.trans (by rw [vall_nil, joinR_ok])
      have H4 := Lib.hid hR
      clear hR HR HJ HG
      go_wp2_with fail
      go_ret2
      rw [H4.out]
      exact ⟨_, rfl, hownr, hbr⟩

/-- The same of the reference: the error's number. -/
def NumsN (w : World) (r : List Nat × Nat) (e : Ending) (w' : World) : Prop :=
  ∃ v, e = .returned (.tuple #[v, .int .i64 (r.2 : Int)]) ∧ w'.ownsRow w.heap.size 25 1 v r.1.length (r.1.map uv) ∧ Below w.heap.size w w'

set_option maxRecDepth 100000 in
set_option maxHeartbeats 2000000 in
theorem vRefAll_any (w : World) (p : Option Addr) (l : List UInt8) (c B : Nat) (hl : l.length ≤ 1099511627776) (hc : l.length ≤ c) (hB : B ≤ w.heap.size) (hs : Sl w B p l) :
    Calls Tryd.prog 13 #[.slice p l.length c] w (NumsN w (vall l)) := by
  obtain ⟨i0, hi, hz0, hz1, hz2⟩ := info_parts info64
  obtain ⟨R, hR⟩ : ∃ R, R = vall l := ⟨_, rfl⟩
  rw [← hR]
  have HR := Lib.hid hR
  clear hR
  go_enter Tryd.func13, Tryd.ntmps13
  go_wp2_with fail
  go_loopw [4, 5] (fun v i wr => ∃ (k : Nat) (out : List Nat), i = .int .i64 (k : Int) ∧ k ≤ l.length ∧ out.length ≤ k ∧ Hid (R = joinR out (vall (l.drop k))) ∧ wr.ownsRow w.heap.size 25 1 v out.length (out.map uv) ∧ Below w.heap.size w wr) (fun _ i _ => l.length - (intOf i).toNat)
  case atStart => exact ⟨0, [], rfl, by omega, by simp, Lib.hid (HR.out.trans (vall_norm l).symm), World.ownsRow_made w #[] 0 (Nat.le_refl _) (by simp) rfl, (Below.refl _ _).alloc (Nat.le_refl _) _⟩
  case round =>
    obtain ⟨k, out, rfl, hk, hok1, HJ, hownr, hbr⟩ := hrel
    have hsz := hbr.size
    have hsr := hs.below (hbr.mono hB)
    by_cases hlt : k < l.length
    · have hml : (l.drop k).length = l.length - k := List.length_drop
      by_cases hok : (vparse (l.drop k)).2.2 = 0
      · have hsize := vparse_size (l.drop k) hok
        have HS := Lib.hid (vall_step (by omega) hok)
        have HP := Lib.hid (vRefParse_any wr _ (l.drop k) (c - k) B (by omega) (hsr.after k))
        have hdr : ∀ s, l.drop (k + s) = (l.drop k).drop s := fun s => by rw [List.drop_drop]
        have HD := Lib.hid hdr
        rw [hok, hml] at HP
        rw [hml] at hsize
        clear hdr hml
        generalize vparse (l.drop k) = r at *
        obtain ⟨n, s, b⟩ := r
        simp only at HS HP hsize hok
        have hkc : k ≤ c := by omega
        go_wp2_with fail
        refine HP.out.mono ?_
        rintro e w1 ⟨rfl, rfl⟩
        go_wp2_with (at_builtin; go_must (refine wpList_append_own_at _ rfl (.tmp 25) (.tmp 27) 33 rfl w.heap.size 25 i0 (.int .u64 0) 1 8 Tryd.underlying33 hi hz0 hz1 hz2 rfl (by decide) _ _ _ rfl (World.ownsRow.alloc hownr _) ⟨wr.heap.size, 0, none⟩ 1 1 [uv n] rfl rfl (cell_one_new _ _ _) (by simp [uv, Value.oneCell']) (by unfold maxLen; omega) (by omega) (by simp; omega) ?_); intro v3 w3 hown3 hg3 hn3 ha3)
        have hb3 := (hbr.alloc (by exact hsz) _).grown hg3 (by simp; omega) (fun g h => (hownr.lt g h).1)
        have hown4 : w3.ownsRow w.heap.size 25 1 v3 (out ++ [n]).length ((out ++ [n]).map uv) := by
          rw [List.length_append, List.map_append]; exact hown3
        have HJ' := Lib.hid (show R = joinR (out ++ [n]) (vall (l.drop (k + s))) by rw [HJ.out, HS.out, joinR_join, HD.out])
        clear hown3 hg3 hn3 ha3
        go_roundw
        case rel => exact ⟨k + s, out ++ [n], by go_num, by omega, by simp; omega, HJ', hown4, hb3⟩
        case measure => simp [intOf]; omega
      · have hR := HJ.out.trans (by rw [vall_bad (by omega) hok, joinR_bad _ _ hok])
        have HP := Lib.hid (vRefParse_any wr _ (l.drop k) (c - k) B (by omega) (hsr.after k))
        have H4 := Lib.hid hR
        rw [hml] at HP
        clear hR HR HJ hml
        generalize vparse (l.drop k) = r at *
        obtain ⟨n, s, b⟩ := r
        simp only at H4 HP hok
        have hkc : k ≤ c := by omega
        go_wp2_with fail
        refine HP.out.mono ?_
        rintro e w1 ⟨rfl, rfl⟩
        go_wp2_with fail
        go_ret2
        rw [H4.out]
        exact ⟨_, rfl, World.ownsRow_nil _ _ _ _, hbr⟩
    · obtain rfl : k = l.length := by omega
      have hR : R = (out, 0) := HJ.out.trans (by rw [List.drop_length, vall_nil, joinR_ok])
      have H4 := Lib.hid hR
      clear hR HR HJ
      go_wp2_with fail
      go_ret2
      rw [H4.out]
      exact ⟨_, rfl, hownr, hbr⟩

set_option maxHeartbeats 1000000 in
theorem same_any (w : World) (p q : Option Addr) (ns : List Nat) (c d B : Nat) (hl : ns.length ≤ 1099511627776) (h1 : Rw w B p (ns.map uv)) (h2 : Rw w B q (ns.map uv)) :
    Calls Tryd.prog 14 #[.slice p ns.length c, .slice q ns.length d] w fun e w' => e = .returned (.bool true) ∧ ∃ m, w' = w.drewN m := by
  go_enter Tryd.func14, Tryd.ntmps14
  go_wp2_with fail
  go_loopw [13] (fun i wr => ∃ (k : Nat) (m : Nat), i = .int .i64 (k : Int) ∧ k ≤ ns.length ∧ wr = w.drewN m) (fun i _ => ns.length - (intOf i).toNat)
  case atStart => exact ⟨0, 0, rfl, by omega, rfl⟩
  case round =>
    obtain ⟨k, m, rfl, hk, rfl⟩ := hrel
    by_cases hlt : k < ns.length
    · obtain ⟨b1, o1, rfl, _, hc1⟩ := h1.at_ (i := k) (by simpa using hlt)
      obtain ⟨b2, o2, rfl, _, hc2⟩ := h2.at_ (i := k) (by simpa using hlt)
      rw [uvs_get] at hc1 hc2
      generalize ns[k] = n at *
      have hd1 : ∀ j, (w.drewN j).cell? ⟨b1, o1 + k, none⟩ = some (.int .u64 (n : Int)) := fun _ => hc1
      have hd2 : ∀ j, (w.drewN j).cell? ⟨b2, o2 + k, none⟩ = some (.int .u64 (n : Int)) := fun _ => hc2
      go_wp2_with fail
      go_quiet (fail)
      go_wp2_with fail
      go_roundw
      case rel => exact ⟨k + 1, _, by go_num, by omega, rfl⟩
      case measure => simp [intOf]; omega
    · obtain rfl : k = ns.length := by omega
      go_wp2_with fail
      go_ret
      exact ⟨rfl, _, rfl⟩
end Go.Proofs.YtephohilhnieoaaDoor
