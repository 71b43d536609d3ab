/- The contracts of record.Raws and record.PutAll. Conditions: texts of at most 300 bytes, at most a million records; the errors' variables hold what the program's text lays. -/
import Derived.Test.YtlndejanojgjlaaDoorProg
import Derived.Test.YtlndejanojgjlaaDoorMem
import Derived.Test.YtlndejanojgjlaaDoorRecArg
import Derived.Test.YtlndejanojgjlaaDoorRall
import Derived.Test.YtlndejanojgjlaaDoorRmath
import Derived.Test.YtlndejanojgjlaaDoorRput
import Derived.Test.YtlndejanojgjlaaDoorBld
namespace Go.Proofs.YtlndejanojgjlaaDoor
open Go.RowKit

/-- The Raw texts of records, one behind the other. -/
def rawsOf (rs : List RecI) : List UInt8 := rs.flatMap RecI.raw
theorem rawsOf_take (rs : List RecI) (k : Nat) (h : k < rs.length) : rawsOf (rs.take (k + 1)) = rawsOf (rs.take k) ++ rs[k].raw := by
  unfold rawsOf
  rw [List.take_succ_eq_append_getElem h, List.flatMap_append]
  simp
theorem rawsOf_le (rs : List RecI) (k : Nat) : (rawsOf (rs.take k)).length ≤ (rawsOf rs).length := by
  have h : rawsOf rs = rawsOf (rs.take k) ++ rawsOf (rs.drop k) := by
    unfold rawsOf
    rw [← List.flatMap_append, List.take_append_drop]
  rw [h]; simp
theorem Bld.alloc {w : World} {B b : Nat} {l : List UInt8} (h : Bld w B b l) (o : Obj) : Bld (w.alloc o) B b l := by
  rcases h with ⟨hB, v, hk, hown, hne, hn⟩ | ⟨hB, v, hk, hown, hne, hn⟩
  · exact .inl ⟨hB, v, hk.alloc o, World.ownsRow.alloc hown o, hne, hn⟩
  · exact .inr ⟨hB, v, hk.alloc o, World.ownsRow.alloc hown o, hne, hn⟩

set_option maxRecDepth 100000 in
set_option maxHeartbeats 1000000 in
theorem raws_any (w : World) (p : Option Addr) (rs : List RecI) (c B : Nat) (hB : B ≤ w.heap.size) (hs : Rs w B p rs) (hl : rs.length ≤ 1099511627776) (ht : (rawsOf rs).length ≤ 70368744177664) :
    Calls Tryd.prog 19 #[.slice p rs.length c] w fun e w' => e = .returned (.string (str (rawsOf rs))) ∧ Below w.heap.size w w' := by
  go_enter Tryd.func19, Tryd.ntmps19
  go_wp2_with fail
  go_loopw [8] (fun i wr => ∃ k : Nat, k ≤ rs.length ∧ i = .int .i64 (k : Int) ∧ Bld wr w.heap.size w.heap.size (rawsOf (rs.take k)) ∧ Below w.heap.size w wr) (fun i _ => rs.length - (intOf i).toNat)
  case atStart => exact ⟨0, by omega, rfl, bld_new w, (Below.refl _ _).alloc (Nat.le_refl _) _⟩
  case round =>
    obtain ⟨k, hk, rfl, hbld, hbr⟩ := hrel
    have hsz := hbr.size
    by_cases hlt : k < rs.length
    · obtain ⟨g, o, rfl, hg, d0, d1, d2, d3, d4⟩ := (hs.below (hbr.mono hB)).at_ hlt
      have e := rawsOf_take rs k hlt
      have hle := rawsOf_le rs (k + 1)
      rw [e, List.length_append] at hle
      have HE := Lib.hid e
      clear e
      generalize rs[k] = x at *
      generalize rawsOf (rs.take k) = l at *
      have HW := Lib.hid (fun o => writeString_any (wr.alloc o) w.heap.size w.heap.size l x.raw (hbld.alloc o) (by omega) (by simp; omega))
      go_wp2_with fail
      refine (HW.out _).mono ?_
      rintro e w2 ⟨rfl, hbld2, hb2⟩
      have h02 := (hbr.alloc hsz _).trans hb2
      rw [← HE.out] at hbld2
      clear HW d0 d1 d2 d3 d4 hb2
      go_wp2_with fail
      go_roundw
      case rel => exact ⟨k + 1, by omega, by go_num, hbld2, h02⟩
      case measure => simp [intOf]; omega
    · obtain rfl : k = rs.length := by omega
      rw [List.take_length] at hbld
      go_wp2_with fail
      refine (string_any wr w.heap.size w.heap.size _ hbld (by omega)).mono ?_
      rintro e w2 ⟨rfl, hb2⟩
      go_wp2_with fail
      go_ret
      exact ⟨rfl, hbr.trans hb2⟩

def RecI.check (r : RecI) : Nat := rcheck r.n r.k r.bits r.text
def RecI.put (r : RecI) : List UInt8 := rput r.n r.k r.bits r.text
/-- All records' bytes; the first error's number. -/
def pall : List RecI → List UInt8 × Nat
  | [] => ([], 0)
  | r :: rs => if r.check ≠ 0 then ([], r.check) else if (pall rs).2 = 0 then (r.put ++ (pall rs).1, 0) else ([], (pall rs).2)
def joinB (out : List UInt8) (r : List UInt8 × Nat) : List UInt8 × Nat := if r.2 = 0 then (out ++ r.1, 0) else ([], r.2)
theorem joinB_nil (r : List RecI) : joinB [] (pall r) = pall r := by
  unfold joinB
  split
  · rename_i h
    rw [List.nil_append]
    exact Prod.ext rfl h.symm
  · rename_i h
    cases r with
    | nil => exact absurd rfl h
    | cons x rs =>
      simp only [pall] at h ⊢
      split
      · rfl
      · split
        · rename_i h1 h2
          rw [if_neg h1, if_pos h2] at h
          exact absurd rfl h
        · rfl
theorem joinB_step {rs : List RecI} {k : Nat} (hk : k < rs.length) (hc : rs[k].check = 0) (out : List UInt8) : joinB out (pall (rs.drop k)) = joinB (out ++ rs[k].put) (pall (rs.drop (k + 1))) := by
  rw [List.drop_eq_getElem_cons hk]
  simp only [pall]
  rw [if_neg (by omega)]
  unfold joinB
  by_cases h : (pall (rs.drop (k + 1))).2 = 0
  · simp [h]
  · simp [h]
theorem joinB_bad {rs : List RecI} {k : Nat} (hk : k < rs.length) (hc : rs[k].check ≠ 0) (out : List UInt8) : joinB out (pall (rs.drop k)) = ([], rs[k].check) := by
  rw [List.drop_eq_getElem_cons hk]
  simp only [pall]
  rw [if_pos hc]
  unfold joinB
  rw [if_neg hc]

set_option maxRecDepth 100000 in
set_option maxHeartbeats 2000000 in
theorem putAll_any (w : World) (A : Nat → Addr) (hE : Errs w A) (p : Option Addr) (rs : List RecI) (c B : Nat) (hB : B ≤ w.heap.size) (hs : Rs w B p rs) (hl : rs.length ≤ 1000000) (hF : ∀ r ∈ rs, r.Fine ∧ r.text.length ≤ 300) :
    Calls Tryd.prog 20 #[.slice p rs.length c] w fun e w' => ∃ v, e = .returned (.tuple #[v, errOf A (pall rs).2]) ∧ w'.ownsRow w.heap.size 5 1 v (pall rs).1.length ((pall rs).1.map bv) ∧ Below w.heap.size w w' := by
  obtain ⟨i0, hi, hz0, hz1, hz2⟩ := info_parts infoB
  obtain ⟨R, hR⟩ : ∃ R, R = pall rs := ⟨_, rfl⟩
  rw [← hR]
  have HR := Lib.hid hR
  have HF := Lib.hid hF
  clear hR hF
  go_enter Tryd.func20, Tryd.ntmps20
  go_wp2_with fail
  go_loopw [4, 11] (fun v i wr => ∃ (k : Nat) (out : List UInt8), k ≤ rs.length ∧ i = .int .i64 (k : Int) ∧ out.length ≤ k * 320 ∧ Hid (R = joinB out (pall (rs.drop k))) ∧ wr.ownsRow w.heap.size 5 1 v out.length (out.map bv) ∧ Below w.heap.size w wr) (fun _ i _ => rs.length - (intOf i).toNat)
  case atStart => exact ⟨0, [], by omega, rfl, by simp, Lib.hid (HR.out.trans (joinB_nil rs).symm), World.ownsRow_nil _ _ _ _, Below.refl _ _⟩
  case round =>
    obtain ⟨k, out, hk, rfl, hol, HJ, hownr, hbr⟩ := hrel
    have hsz := hbr.size
    by_cases hlt : k < rs.length
    · obtain ⟨g, o, rfl, hg, d0, d1, d2, d3, d4⟩ := (hs.below (hbr.mono hB)).at_ hlt
      obtain ⟨hx, hx3⟩ := HF.out rs[k] (List.getElem_mem hlt)
      by_cases hc : rs[k].check = 0
      · have hJ := HJ.out.trans (joinB_step hlt hc out)
        have hpl := (rput_len hc hx.bits (by omega)).2
        have HP := Lib.hid (fun o => recPut_ok (wr.alloc o) A ((hE.below hbr).below ((Below.refl _ _).alloc (Nat.le_refl _) o)) rs[k].n rs[k].k rs[k].bits rs[k].text rs[k].raw hx.bits (by omega) hc)
        have hpl' : rs[k].put.length ≤ 320 := by unfold RecI.put; omega
        have hpe : rput rs[k].n rs[k].k rs[k].bits rs[k].text = rs[k].put := rfl
        rw [hpe] at HP
        clear hpl hpe hc HJ
        have HJ2 := Lib.hid hJ
        clear hJ
        generalize rs[k] = x at *
        generalize x.put = z at *
        unfold PutOk recV at HP
        clear hx hx3
        go_wp2_with fail
        refine (HP.out _).mono ?_
        rintro e w2 ⟨v2, rfl, hown2, hb2⟩
        obtain ⟨q2, c2, rfl, hsl2, hc2, _⟩ := own_sl hown2
        have h02 := (hbr.alloc hsz _).trans (hb2.mono (by simp; omega))
        have hownr2 := row_below (World.ownsRow.alloc hownr _) hb2
        have hz2' := h02.size
        clear d0 d1 d2 d3 d4 HP hown2 hb2
        go_wp2_with (at_builtin; go_must (refine wpList_append_sl _ rfl (.tmp 23) (.tmp 24) 22 rfl w.heap.size 5 i0 (.int .u8 0) Tryd.underlying22 hi hz0 hz1 hz2 rfl _ _ _ rfl hownr2 w2.heap.size q2 c2 z rfl hsl2 (by omega) hz2' ?_); intro v3 w3 hown3 hg3)
        have h03 := h02.grown hg3 hz2' (fun g h => (hownr2.lt g h).1)
        rw [← List.length_append, ← List.map_append] at hown3
        clear hg3
        go_roundw
        case rel => exact ⟨k + 1, out ++ z, by omega, by go_num, by rw [List.length_append]; omega, HJ2, hown3, h03⟩
        case measure => simp [intOf]; omega
      · have hJ := HJ.out.trans (joinB_bad hlt hc out)
        have HP := Lib.hid (fun o => recPut_bad (wr.alloc o) A ((hE.below hbr).below ((Below.refl _ _).alloc (Nat.le_refl _) o)) rs[k].n rs[k].k rs[k].bits rs[k].text rs[k].raw hc)
        rw [show rcheck rs[k].n rs[k].k rs[k].bits rs[k].text = rs[k].check from rfl] at HP
        obtain ⟨b, hb⟩ := Nat.exists_eq_succ_of_ne_zero hc
        rw [hb, show errOf A b.succ = errV A b from rfl] at HP
        rw [hb] at hJ
        have hne := neq_errV A b
        have HJ2 := Lib.hid hJ
        clear hJ hb hc HJ HR
        generalize rs[k] = x at *
        unfold recV at HP
        go_wp2_with fail
        refine (HP.out _).mono ?_
        rintro e w2 ⟨rfl, hb2⟩
        have h02 := (hbr.alloc hsz _).trans (hb2.mono (by simp; omega))
        clear d0 d1 d2 d3 d4 HP hb2
        go_wp2_with fail
        go_ret2
        rw [HJ2.out]
        exact ⟨_, rfl, World.ownsRow_nil _ _ _ _, h02⟩
    · obtain rfl : k = rs.length := by omega
      have hR : R = (out, 0) := HJ.out.trans (by rw [List.drop_length]; simp [pall, joinB])
      have H4 := Lib.hid hR
      clear hR HR HJ
      go_wp2_with fail
      go_ret2
      rw [H4.out]
      exact ⟨_, rfl, hownr, hbr⟩
end Go.Proofs.YtlndejanojgjlaaDoor
