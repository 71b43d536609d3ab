/- A strings.Builder of the call's own: what WriteString and String do to it. Condition: together at most 2^47 bytes. -/
import Derived.Test.YtlndejanojgjlaaDoorProg
import Derived.Test.YtlndejanojgjlaaDoorMem
import Derived.Test.YtlndejanojgjlaaDoorText
import Derived.Test.YtlndejanojgjlaaDoorJoin
import Derived.Test.YtlndejanojgjlaaDoorRall
import Derived.Test.YtlndejanojgjlaaDoorRef04d
import Derived.Lib.Builder
import Derived.Lib.UnsafeStr
import Derived.Lib.AppendStr
import Derived.RegionTactic
import Derived.ChangeAlike
namespace Go.Proofs.YtlndejanojgjlaaDoor
open Go.RowKit

/-- Block b is a builder from block number B on that holds the bytes l; its first cell holds p. -/
def BldP (w : World) (B b : Nat) (l : List UInt8) (p : Value) : Prop :=
  B ≤ b ∧ ∃ v, Blk w b 83 [p, v] ∧ w.ownsRow B 5 1 v l.length (l.map bv) ∧ v.ownBlock ≠ some b ∧ (l = [] → v = .slice none 0 0)
def Bld (w : World) (B b : Nat) (l : List UInt8) : Prop := BldP w B b l (.pointer none) ∨ BldP w B b l (.pointer (some ⟨b, 0, none⟩))

theorem infoBld : (Tryd.prog.info? 83).map (·.size) = some 2 := by kernel_rfl
theorem liesBld : liesAt Tryd.prog Tryd.prog.depth 83 (2 / Tryd.prog.cellsOf 83) 0 83 1 = true := by kernel_rfl
theorem cellByte : Tryd.prog.cellsOf 5 = 1 := by kernel_rfl
theorem Blk.shape {w : World} {g : Nat} {t : TypeId} {cs : List Value} (h : Blk w g t cs) : w.shape? g = some (t, cs.length) := by
  unfold Blk at h
  simp [World.shape?, h]
theorem row_far {w : World} {base b : Nat} {e : TypeId} {v : Value} {n : Nat} {xs : List Value} (h : w.ownsRow base e 1 v n xs) (hne : v.ownBlock ≠ some b) (j : Nat) (u : Value) : (w.setCell ⟨b, j, none⟩ u).ownsRow base e 1 v n xs :=
  h.kept (row := some b) ⟨rfl, rfl, rfl, by simp [World.setCell], fun k _ hk => Below.heap_setCell _ _ _ _ (fun e => hk (by simp [e]))⟩ (.inr hne)

set_option maxRecDepth 100000 in
set_option maxHeartbeats 1000000 in
theorem copyCheck_any (w : World) (B b : Nat) (l : List UInt8) (h : Bld w B b l) :
    Calls Tryd.prog 53 #[.pointer (some ⟨b, 0, none⟩)] w fun e w' => e = .returned (.tuple #[]) ∧ BldP w' B b l (.pointer (some ⟨b, 0, none⟩)) ∧ Below B w w' := by
  obtain ⟨j, hj, hjs⟩ := Option.map_eq_some_iff.1 infoBld
  have hself := fun u : World => Lib.run_neq_ptr_same (P := Tryd.prog) (w := u) ⟨b, 0, none⟩ Tryd.underlying81 hj
  rcases h with ⟨hB, v, hk, hown, hne, hn⟩ | ⟨hB, v, hk, hown, hne, hn⟩
  · have c0 := hk.cell 0
    simp only [List.getElem?_cons_zero] at c0
    have f0 := hk.frozen 0
    have hsh := hk.shape
    have hto := Lib.run_to_unsafe (P := Tryd.prog) w ⟨b, 0, none⟩ Tryd.underlying81 Tryd.underlying119 hj (by rw [hjs]; decide) hsh (Nat.zero_lt_succ 1)
    have hfrom := Lib.run_from_unsafe (P := Tryd.prog) w ⟨b, 0, none⟩ Tryd.underlying119 Tryd.underlying81 hj hsh liesBld
    have hesc : ∀ u : World, (callFunc 63 #[.pointer (some ⟨b, 0, none⟩)]).run Tryd.prog u = .ok (.value (.pointer (some ⟨b, 0, none⟩))) u := fun u => by
      rw [run_callFunc_extern (e := Extern.AbiNoEscape.same) Tryd.func63 (by kernel_rfl) (by kernel_rfl) (by rfl) (by rfl), Lib.run_noEscape]
      rfl
    have hres := hk.set_ 0 (.pointer (some ⟨b, 0, none⟩))
    simp only [List.set_cons_zero] at hres
    have hrow := row_far hown hne 0 (.pointer (some ⟨b, 0, none⟩))
    have hbel := (Below.refl B w).setCell (p := ⟨b, 0, none⟩) hB (.pointer (some ⟨b, 0, none⟩))
    clear hj hjs hsh hk hown
    have HN := Lib.hid hn
    have HE := Lib.hid hne
    clear hn hne
    go_enter Tryd.func53, Tryd.ntmps53
    go_wp2_with fail
    go_end0
    exact ⟨rfl, ⟨hB, v, hres, hrow, HE.out, HN.out⟩, hbel⟩
  · have c0 := hk.cell 0
    simp only [List.getElem?_cons_zero] at c0
    have HN := Lib.hid hn
    have HE := Lib.hid hne
    clear hn hne
    go_enter Tryd.func53, Tryd.ntmps53
    go_wp2_with fail
    go_end0
    exact ⟨rfl, ⟨hB, v, hk, hown, HE.out, HN.out⟩, Below.refl _ _⟩

theorem row_slice {w : World} {B : Nat} {e : TypeId} {v : Value} {n : Nat} {xs : List Value} (hown : w.ownsRow B e 1 v n xs) : ∃ ao n' cap, v = .slice ao n' cap := by
  rcases hown.2 with ⟨hv, _⟩ | ⟨g, cap, cur, hv, _⟩
  · exact ⟨_, _, _, hv⟩
  · exact ⟨_, _, _, hv⟩
theorem bld_blk {w : World} {B b : Nat} {e : TypeId} {v : Value} {n : Nat} {xs cs : List Value} {t : TypeId} (hown : w.ownsRow B e 1 v n xs) (hb : Blk w b t cs) (hte : t ≠ e) : v.ownBlock ≠ some b := fun h => by
  obtain ⟨_, h2⟩ := hown
  rcases h2 with ⟨rfl, _⟩ | ⟨g, cap, cur, rfl, _, hh, _⟩
  · cases h
  · have hg : g = b := by simpa [Value.ownBlock] using h
    subst hg
    unfold Blk at hb
    rw [hb] at hh
    injection hh with hh
    injection hh with _ h2 _
    exact hte h2

set_option maxRecDepth 100000 in
set_option maxHeartbeats 1000000 in
theorem writeString_any (w : World) (B b : Nat) (l t : List UInt8) (h : Bld w B b l) (hlen : l.length + t.length ≤ 140737488355328) (hBw : B ≤ w.heap.size) :
    Calls Tryd.prog 35 #[.pointer (some ⟨b, 0, none⟩), .string (str t)] w fun e w' => e = .returned (.tuple #[.int .i64 (t.length : Int), .nilIface]) ∧ Bld w' B b (l ++ t) ∧ Below B w w' := by
  obtain ⟨i0, hi, hz0, hz1, hz2⟩ := info_parts infoB
  have HS := Lib.hid (strSize t)
  go_enter Tryd.func35, Tryd.ntmps35
  go_wp2_with fail
  refine (copyCheck_any w B b l h).mono ?_
  rintro e w1 ⟨rfl, ⟨hB, v, hk, hown, hne, hn⟩, hb1⟩
  have HN := Lib.hid hn
  have HE := Lib.hid hne
  clear hn hne h
  have c1 := hk.cell 1
  simp only [List.getElem?_cons_zero, List.getElem?_cons_succ] at c1
  have hB1 : B ≤ w1.heap.size := Nat.le_trans hBw (by have := hb1.size; omega)
  go_wp2_with (at_builtin; go_must (refine Lib.wpList_append_own_string _ rfl (.tmp 12) (.tmp 13) 22 9 rfl B 5 i0 Tryd.underlying22 Tryd.underlying9 hi hz0 hz1 hz2 _ _ _ rfl hown (str t) rfl (by rw [HS.out]; unfold maxLen; omega) (by rw [HS.out]; omega) hB1 ?_); intro v2 w2 hown2 hg2 hn2; have hk2 := hk.grown hg2 (fun e => HE.out e.symm); have d1 : w2.cell? ⟨b, 1, none⟩ = some v := hk2.cell 1; have f1 : w2.frozen? ⟨b, 1, none⟩ = false := hk2.frozen 1; have HN2 := Lib.hid hn2; clear hn2; obtain ⟨ao, n', cap, rfl⟩ := row_slice hown2)
  have hne2 := bld_blk hown2 hk2 (by decide)
  have hk3 := hk2.set_ 1 (.slice ao n' cap)
  simp only [List.set_cons_zero, List.set_cons_succ] at hk3
  have hrow := row_far hown2 hne2 1 (.slice ao n' cap)
  rw [HS.out, strCells_str, ← List.map_append, ← List.length_append] at hrow
  have hbel := (hb1.grown hg2 hB1 (fun k hk => (hown.lt k hk).1)).setCell (p := ⟨b, 1, none⟩) hB (.slice ao n' cap)
  have hnil : l ++ t = [] → Value.slice ao n' cap = .slice none 0 0 := fun h => by
    obtain ⟨h1, h2⟩ := List.append_eq_nil_iff.1 h
    exact HN2.out.2 ⟨HN.out h1, by rw [HS.out, h2]; rfl⟩
  have HH := Lib.hid hnil
  have HG := Lib.hid hne2
  clear hnil hne2
  go_ret2
  exact ⟨by rw [← HS.out]; rfl, .inr ⟨hB, _, hk3, hrow, HG.out, HH.out⟩, hbel⟩

set_option maxRecDepth 100000 in
set_option maxHeartbeats 1000000 in
theorem string_ok (w : World) (B b : Nat) (l : List UInt8) (h : Bld w B b l) (hl : l ≠ []) (hlen : l.length ≤ 140737488355328) :
    Calls Tryd.prog 36 #[.pointer (some ⟨b, 0, none⟩)] w fun e w' => e = .returned (.string (str l)) ∧ Below B w w' := by
  obtain ⟨p, hB, v, hk, hown, hne, hn⟩ : ∃ p, BldP w B b l p := by
    rcases h with h | h
    · exact ⟨_, h⟩
    · exact ⟨_, h⟩
  have hpos : 0 < l.length := List.length_pos_iff.2 hl
  obtain ⟨g, cap, rest, rfl, hBg, hg, hnc, _, _⟩ := own_blk hown hpos
  have c1 : w.drew.cell? ⟨b, 1, none⟩ = some (.slice (some ⟨g, 0, none⟩) l.length cap) := (hk.drewN 1).cell 1
  have hdata : (Builtin.unsafeSliceData_ #[22] 104 #[.slice (some ⟨g, 0, none⟩) l.length cap]).run Tryd.prog w.drew = .ok (.pointer (some ⟨g, 0, none⟩)) w.drew := Lib.run_unsafeSliceData_row _ _ _ _ _ _ (by omega)
  have hstr : (Builtin.unsafeString_ #[104, 3] 9 #[.pointer (some ⟨g, 0, none⟩), .int .i64 (l.length : Int)]).run Tryd.prog w.drew = .ok (.string (str l)) (w.drew.freeze ⟨g, 0, none⟩ l.length) :=
    Lib.run_unsafeString_row _ _ _ _ 5 Tryd.underlying104 cellByte g (l.map bv ++ rest).length (hg.drewN 1).shape l hl (by simp) (by omega) fun j x hx => by
      have hj : j < l.length := (List.getElem?_eq_some_iff.1 hx).1
      rw [Addr.add_lit, Nat.zero_add, (hg.drewN 1).cell, List.getElem?_append_left (by simpa using hj), List.getElem?_map, hx]
      rfl
  have hend := Lib.below_freeze ((Below.refl B w).drew) (p := ⟨g, 0, none⟩) hBg l.length
  clear hk hown hne hn hg h hl
  go_enter Tryd.func36, Tryd.ntmps36
  go_wp2
  go_region
  all_goals
    go_wp2
    go_ret
    exact ⟨rfl, hend⟩

set_option maxRecDepth 100000 in
set_option maxHeartbeats 1000000 in
theorem string_nil (w : World) (B b : Nat) (h : Bld w B b []) :
    Calls Tryd.prog 36 #[.pointer (some ⟨b, 0, none⟩)] w fun e w' => e = .returned (.string (str [])) ∧ Below B w w' := by
  obtain ⟨p, hB, v, hk, hown, hne, hn⟩ : ∃ p, BldP w B b [] p := by
    rcases h with h | h
    · exact ⟨_, h⟩
    · exact ⟨_, h⟩
  obtain rfl := hn rfl
  have c1 : w.drew.cell? ⟨b, 1, none⟩ = some (.slice none 0 0) := (hk.drewN 1).cell 1
  have hdata : (Builtin.unsafeSliceData_ #[22] 104 #[.slice none 0 0]).run Tryd.prog w.drew = .ok (.pointer none) w.drew := rfl
  have hstr := fun (u : World) => Lib.run_unsafeString_none (P := Tryd.prog) u 104 3 9 none
  clear hk hown hne hn h
  go_enter Tryd.func36, Tryd.ntmps36
  go_wp2
  go_region
  all_goals
    go_wp2
    go_ret
    exact ⟨rfl, (Below.refl B w).drew⟩

theorem string_any (w : World) (B b : Nat) (l : List UInt8) (h : Bld w B b l) (hlen : l.length ≤ 140737488355328) :
    Calls Tryd.prog 36 #[.pointer (some ⟨b, 0, none⟩)] w fun e w' => e = .returned (.string (str l)) ∧ Below B w w' := by
  by_cases hl : l = []
  · subst hl
    exact string_nil w B b h
  · exact string_ok w B b l h hl hlen
theorem bld_new (w : World) : Bld (w.alloc (.cells #[.pointer none, .slice none 0 0] 83)) w.heap.size w.heap.size [] :=
  .inl ⟨Nat.le_refl _, _, Blk.new w _ [_, _], World.ownsRow_nil _ _ _ _, by simp [Value.ownBlock], fun _ => rfl⟩
end Go.Proofs.YtlndejanojgjlaaDoor
