/- The walk of RecordRaws: for all bytes and every list of records the answer is true, and nothing that was there turns. Condition: the errors' variables hold different pointers, as the program's text lays them. -/
import Derived.Test.YtlndejanojgjlaaDoorProg
import Derived.Test.YtlndejanojgjlaaDoorMem
import Derived.Test.YtlndejanojgjlaaDoorNum
import Derived.Test.YtlndejanojgjlaaDoorText
import Derived.Test.YtlndejanojgjlaaDoorGrow
import Derived.Test.YtlndejanojgjlaaDoorHolds
import Derived.Test.YtlndejanojgjlaaDoorAlive04
import Derived.Test.YtlndejanojgjlaaDoorRall
import Derived.Test.YtlndejanojgjlaaDoorRmath
import Derived.Test.YtlndejanojgjlaaDoorRaws
import Derived.Test.YtlndejanojgjlaaDoorRPutsWalk
import Derived.Test.YtlndejanojgjlaaDoorRParsesWalk
import Derived.Laws.StructEq
import Derived.BigGuardPart
import Derived.Deep.DeepCutAuto
namespace Go.Proofs.YtlndejanojgjlaaDoor
open Go.RowKit

/-- What a record's bytes are parsed as. -/
def dOf (r : RecI) : RecD := ⟨r.n.toNat, r.k.toNat, r.bits, r.text, r.put⟩
theorem dOf_i {r : RecI} (h : r.check = 0) : (dOf r).i = ⟨r.n, r.k, r.bits, r.text, r.put⟩ := by
  obtain ⟨h1, _, h3⟩ := tcheck_zero (rcheck_tag h)
  unfold dOf RecD.i
  simp only [RecI.mk.injEq, and_true]
  omega
theorem pall_all : ∀ (rs : List RecI), (∀ r ∈ rs, r.check = 0 ∧ r.bits < 18446744073709551616 ∧ r.text.length ≤ 300) → (pall rs).2 = 0 ∧ (pall rs).1.length ≤ rs.length * 320 ∧ rall (pall rs).1 = (rs.map dOf, 0)
  | [], _ => ⟨rfl, by simp [pall], by simp [pall, rall_nil]⟩
  | r :: rs, h => by
    obtain ⟨hc, hb, ht⟩ := h r (by simp)
    obtain ⟨h1, h2, h3⟩ := pall_all rs fun x hx => h x (by simp [hx])
    have e : pall (r :: rs) = (r.put ++ (pall rs).1, 0) := by simp only [pall]; rw [if_neg (by omega), if_pos h1]
    have hp := rparse_rput hc hb (by omega) (pall rs).1
    have hl := rput_len hc hb (by omega)
    rw [e]
    refine ⟨rfl, ?_, ?_⟩
    · have : r.put.length ≤ 320 := by unfold RecI.put; omega
      simp only [List.length_append, List.length_cons]
      omega
    · have hp' : rparse (r.put ++ (pall rs).1) = (dOf r, r.put.length, 0) := hp
      have hl' : 0 < r.put.length := hl.1
      simp only
      rw [rall_step (by simp; omega) (by rw [hp']), hp']
      simp only [List.drop_left]
      rw [h3]
      simp [joinD]
theorem rall_raws : ∀ (n : Nat) (l : List UInt8), l.length ≤ n → ((rall l).2 = 0 → rawsOf ((rall l).1.map RecD.i) = l) ∧ ((rall l).2 ≠ 0 → (rall l).1 = [])
  | 0, l, h => by
    obtain rfl : l = [] := List.eq_nil_of_length_eq_zero (by omega)
    rw [rall_nil]
    exact ⟨fun _ => rfl, fun h => absurd rfl h⟩
  | n + 1, l, h => by
    by_cases h0 : 0 < l.length
    · by_cases hp : (rparse l).2.2 = 0
      · have hs := rparse_size hp
        have ih := rall_raws n (l.drop (rparse l).2.1) (by rw [List.length_drop]; omega)
        have hr : (rparse l).1.raw = l.take (rparse l).2.1 := by
          unfold rparse at hp ⊢
          split at hp
          · rename_i hb; exact absurd hp hb
          · rename_i hb
            rw [if_neg hb]
            split at hp
            · rename_i hb2; exact absurd hp hb2
            · rename_i hb2; rw [if_neg hb2]
        rw [rall_step h0 hp]
        unfold joinD
        split
        · rename_i hz
          refine ⟨fun _ => ?_, fun h => absurd rfl h⟩
          have e : rawsOf (List.map RecD.i ([(rparse l).1] ++ (rall (l.drop (rparse l).2.1)).1)) = (rparse l).1.raw ++ rawsOf ((rall (l.drop (rparse l).2.1)).1.map RecD.i) := rfl
          simp only
          rw [e, ih.1 hz, hr, List.take_append_drop]
        · rename_i hz
          exact ⟨fun h => absurd h hz, fun _ => rfl⟩
      · rw [rall_bad h0 hp]
        exact ⟨fun h => absurd h hp, fun _ => rfl⟩
    · obtain rfl : l = [] := List.eq_nil_of_length_eq_zero (by omega)
      rw [rall_nil]
      exact ⟨fun _ => rfl, fun h => absurd rfl h⟩

theorem eql_errV (A : Nat → Addr) (b : Nat) (u : World) : (binOp .eql 31 (errV A b) .nilIface).run Tryd.prog u = .ok (.bool false) u := run_eql_held_nil (P := Tryd.prog) u 31 tE (.pointer (some (A b))) (by kernel_rfl)

set_option maxRecDepth 100000 in
set_option maxHeartbeats 1000000 in
theorem rraws_far (w : World) (A : Nat → Addr) (hE : Errs w A) (p : Option Addr) (l : List UInt8) (c : Nat) (q : Option Addr) (rs : List RecI) (d : Nat) (h : 400 < l.length ∨ ¬ 400 < l.length ∧ 20 < rs.length) :
    Calls Tryd.prog 5 #[.slice p l.length c, .slice q rs.length d] w fun e w' => e = .returned (.bool true) ∧ Below w.heap.size w w' := by
  rcases h with h | ⟨h, h'⟩
  all_goals
    go_enter Tryd.func5, Tryd.ntmps5
    go_wp2_with fail
    refine (alive04_any w A hE).mono ?_
    rintro e w1 ⟨rfl, hb1⟩
    go_wp2_with fail
    go_ret
    exact ⟨rfl, hb1⟩

set_option maxRecDepth 100000 in
set_option maxHeartbeats 8000000 in
theorem rraws_near (w : World) (A : Nat → Addr) (hE : Errs w A) (p : Option Addr) (l : List UInt8) (c : Nat) (q : Option Addr) (rs : List RecI) (d : Nat) (hs : Sl w w.heap.size p l) (hc : l.length ≤ c) (hm : c ≤ maxLen) (hr : Rs w w.heap.size q rs) (hF : ∀ r ∈ rs, r.Fine) (h400 : l.length ≤ 400) (h20 : rs.length ≤ 20) :
    Calls Tryd.prog 5 #[.slice p l.length c, .slice q rs.length d] w fun e w' => e = .returned (.bool true) ∧ Below w.heap.size w w' := by
  have HF := Lib.hid hF
  have hraw := rall_raws l.length l (Nat.le_refl _)
  have hal := (rall_err l.length l (Nat.le_refl _)).2
  have HAL := Lib.hid (fun ws hE hB hs => recAll_any ws A hE p l c w.heap.size (by omega) hc hm hB hs)
  unfold RecsL at HAL
  generalize rall l = S at *
  obtain ⟨ys, b0⟩ := S
  simp only at HAL hraw hal
  obtain ⟨xs, hxs⟩ : ∃ xs, xs = ys.map RecD.i := ⟨_, rfl⟩
  have hxl : xs.length ≤ 400 := by rw [hxs, List.length_map]; omega
  rw [← hxs] at HAL hraw
  have HRAW := Lib.hid hraw.1
  have HNIL := Lib.hid (show b0 ≠ 0 → xs = [] from fun h => by rw [hxs, hraw.2 h]; rfl)
  clear hF hraw hal hxs
  have h4 : ¬ 400 < l.length := by omega
  have h2 : ¬ 20 < rs.length := by omega
  go_enter Tryd.func5, Tryd.ntmps5
  go_wp2_with fail
  refine (alive04_any w A hE).mono ?_
  rintro e w1 ⟨rfl, hb1⟩
  have hs1 := hs.below hb1
  go_wp2_with fail
  refine (HAL.out w1 (hE.below hb1) hb1.size hs1).mono ?_
  rintro e w2 ⟨v2, rfl, hown2, hb2⟩
  obtain ⟨q2, c2, rfl, hrs2, hc2, _⟩ := own_rs hown2
  have h02 := hb1.trans (hb2.mono hb1.size)
  have hs2 := hs1.below (hb2.mono hb1.size)
  clear HAL hown2 hb1 hs1
  go_upto_region 6 with fail
  go_cut [49, 0, 1] (fun s x y wx => s = .bool false ∧ x = .slice p l.length c ∧ y = .slice q rs.length d ∧ Below w.heap.size w wx)
  case first =>
    by_cases hb0 : b0 = 0
    · subst hb0
      rw [show errOf A 0 = Value.nilIface from rfl]
      have HR := Lib.hid (fun wx (hC : Below w2.heap.size w2 wx) => raws_any wx q2 xs c2 w2.heap.size hC.size (hrs2.below hC) (by omega) (by rw [HRAW.out rfl]; omega))
      rw [HRAW.out rfl] at HR
      refine wp_region_grow (Below w2.heap.size w2) (fun u u' => Below u.heap.size u u') (.is .nilIface :: .is (.bool true) :: .is (.bool true) :: .is (.slice q2 xs.length c2) :: .is (.string (str l)) :: .is (.slice p l.length c) :: .is (.string (str l)) :: .is (.bool false) :: .is (.bool false) :: .is (.bool false) :: .is .nilIface :: .is (.bool false) :: .is (.bool false) :: .is undef :: .is undef :: .is undef :: .is (.bool false) :: .is (.bool false) :: []) (by kernel_rfl) (by kernel_rfl) (fun u u' h hC => hC.trans (h.mono hC.size)) (by repeat (first | exact trivial | refine ⟨by first | exact stay_is | exact stay_holds _, ?_⟩)) ((Below.refl _ _).drew) ?h
      case h =>
        refine wpT_is (fun _ => Below.refl _ _) rfl (fun wx hC hS => by go_simp <;> rfl) ?_
        simp only [Act.put, List.setIfInBounds_toArray, List.set_cons_zero, List.set_cons_succ]
        refine wpT_is (fun _ => Below.refl _ _) rfl (fun wx hC hS => by go_simp <;> rfl) ?_
        simp only [Act.put, List.setIfInBounds_toArray, List.set_cons_zero, List.set_cons_succ]
        refine wpT_is (fun _ => Below.refl _ _) rfl (fun wx hC hS => by go_simp <;> rfl) ?_
        simp only [Act.put, List.setIfInBounds_toArray, List.set_cons_zero, List.set_cons_succ]
        refine wpT_is (fun _ => Below.refl _ _) rfl (fun wx hC hS => by go_simp <;> rfl) ?_
        simp only [Act.put, List.setIfInBounds_toArray, List.set_cons_zero, List.set_cons_succ]
        refine wpT_callIs rfl (fun wx hC _ => by go_simp <;> first | exact ⟨rfl, rfl⟩ | rfl) (fun wx hC _ => HR.out wx hC) ?_
        simp only [Act.put, List.setIfInBounds_toArray, List.set_cons_zero, List.set_cons_succ]
        refine wpT_is (fun _ => Below.refl _ _) rfl (fun wx hC hS => by go_simp <;> rfl) ?_
        simp only [Act.put, List.setIfInBounds_toArray, List.set_cons_zero, List.set_cons_succ]
        refine wpT_is (fun _ => Below.refl _ _) rfl (fun wx hC hS => by have ex := (hs2.below (hC.mono h02.size)).string c; go_simp <;> rfl) ?_
        simp only [Act.put, List.setIfInBounds_toArray, List.set_cons_zero, List.set_cons_succ]
        refine wpT_is (fun _ => Below.refl _ _) rfl (fun wx hC hS => by go_simp <;> rfl) ?_
        simp only [Act.put, List.setIfInBounds_toArray, List.set_cons_zero, List.set_cons_succ]
        refine wpT_is (fun _ => Below.refl _ _) rfl (fun wx hC hS => by go_simp <;> rfl) ?_
        simp only [Act.put, List.setIfInBounds_toArray, List.set_cons_zero, List.set_cons_succ]
        refine wpT_is (fun _ => Below.refl _ _) rfl (fun wx hC hS => by go_simp <;> rfl) ?_
        simp only [Act.put, List.setIfInBounds_toArray, List.set_cons_zero, List.set_cons_succ]
        refine wpT_is (fun _ => Below.refl _ _) rfl (fun wx hC hS => by go_simp <;> rfl) ?_
        simp only [Act.put, List.setIfInBounds_toArray, List.set_cons_zero, List.set_cons_succ]
        refine wpT_is (fun _ => Below.refl _ _) rfl (fun wx hC hS => by go_simp <;> rfl) ?_
        simp only [Act.put, List.setIfInBounds_toArray, List.set_cons_zero, List.set_cons_succ]
        refine wpT_is (fun _ => Below.refl _ _) rfl (fun wx hC hS => by go_simp <;> rfl) ?_
        simp only [Act.put, List.setIfInBounds_toArray, List.set_cons_zero, List.set_cons_succ]
        refine wpT_no rfl ?_
        simp only [Act.put, List.setIfInBounds_toArray, List.set_cons_zero, List.set_cons_succ]
        refine wpT_no rfl ?_
        simp only [Act.put, List.setIfInBounds_toArray, List.set_cons_zero, List.set_cons_succ]
        refine wpT_no rfl ?_
        simp only [Act.put, List.setIfInBounds_toArray, List.set_cons_zero, List.set_cons_succ]
        refine wpT_is (fun _ => Below.refl _ _) rfl (fun wx hC hS => by go_simp <;> rfl) ?_
        simp only [Act.put, List.setIfInBounds_toArray, List.set_cons_zero, List.set_cons_succ]
        refine wpT_is (fun _ => Below.refl _ _) rfl (fun wx hC hS => by go_simp <;> rfl) ?_
        simp only [Act.put, List.setIfInBounds_toArray, List.set_cons_zero, List.set_cons_succ]
        refine wpT_nil fun wx hC _ => ?_
        go_wp2_with fail
        go_meet
        exact ⟨rfl, rfl, rfl, h02.trans (hC.mono h02.size)⟩
    · obtain ⟨b, rfl⟩ := Nat.exists_eq_succ_of_ne_zero hb0
      rw [show errOf A b.succ = errV A b from rfl]
      obtain rfl := HNIL.out hb0
      refine wp_region_grow (Below w2.heap.size w2) (fun u u' => Below u.heap.size u u') (.is (errV A b) :: .is (.bool false) :: .is (.bool false) :: .is undef :: .is undef :: .is undef :: .is undef :: .is undef :: .is (.bool false) :: .is (.bool false) :: .is (errV A b) :: .is (.bool true) :: .is (.bool true) :: .is (.slice q2 0 c2) :: .is (.int .i64 0) :: .is (.bool false) :: .is (.bool false) :: .is (.bool false) :: []) (by kernel_rfl) (by kernel_rfl) (fun u u' h hC => hC.trans (h.mono hC.size)) (by repeat (first | exact trivial | refine ⟨by first | exact stay_is | exact stay_holds _, ?_⟩)) ((Below.refl _ _).drew) ?h2
      case h2 =>
        refine wpT_is (fun _ => Below.refl _ _) rfl (fun wx hC hS => by go_simp <;> rfl) ?_
        simp only [Act.put, List.setIfInBounds_toArray, List.set_cons_zero, List.set_cons_succ]
        refine wpT_is (fun _ => Below.refl _ _) rfl (fun wx hC hS => by have he := eql_errV A b; go_simp <;> rfl) ?_
        simp only [Act.put, List.setIfInBounds_toArray, List.set_cons_zero, List.set_cons_succ]
        refine wpT_is (fun _ => Below.refl _ _) rfl (fun wx hC hS => by go_simp <;> rfl) ?_
        simp only [Act.put, List.setIfInBounds_toArray, List.set_cons_zero, List.set_cons_succ]
        refine wpT_no rfl ?_
        simp only [Act.put, List.setIfInBounds_toArray, List.set_cons_zero, List.set_cons_succ]
        refine wpT_no rfl ?_
        simp only [Act.put, List.setIfInBounds_toArray, List.set_cons_zero, List.set_cons_succ]
        refine wpT_no rfl ?_
        simp only [Act.put, List.setIfInBounds_toArray, List.set_cons_zero, List.set_cons_succ]
        refine wpT_no rfl ?_
        simp only [Act.put, List.setIfInBounds_toArray, List.set_cons_zero, List.set_cons_succ]
        refine wpT_no rfl ?_
        simp only [Act.put, List.setIfInBounds_toArray, List.set_cons_zero, List.set_cons_succ]
        refine wpT_is (fun _ => Below.refl _ _) rfl (fun wx hC hS => by go_simp <;> rfl) ?_
        simp only [Act.put, List.setIfInBounds_toArray, List.set_cons_zero, List.set_cons_succ]
        refine wpT_is (fun _ => Below.refl _ _) rfl (fun wx hC hS => by go_simp <;> rfl) ?_
        simp only [Act.put, List.setIfInBounds_toArray, List.set_cons_zero, List.set_cons_succ]
        refine wpT_is (fun _ => Below.refl _ _) rfl (fun wx hC hS => by go_simp <;> rfl) ?_
        simp only [Act.put, List.setIfInBounds_toArray, List.set_cons_zero, List.set_cons_succ]
        refine wpT_is (fun _ => Below.refl _ _) rfl (fun wx hC hS => by have he := neq_errV A b; go_simp <;> rfl) ?_
        simp only [Act.put, List.setIfInBounds_toArray, List.set_cons_zero, List.set_cons_succ]
        refine wpT_is (fun _ => Below.refl _ _) rfl (fun wx hC hS => by go_simp <;> rfl) ?_
        simp only [Act.put, List.setIfInBounds_toArray, List.set_cons_zero, List.set_cons_succ]
        refine wpT_is (fun _ => Below.refl _ _) rfl (fun wx hC hS => by go_simp <;> rfl) ?_
        simp only [Act.put, List.setIfInBounds_toArray, List.set_cons_zero, List.set_cons_succ]
        refine wpT_is (fun _ => Below.refl _ _) rfl (fun wx hC hS => by go_simp <;> rfl) ?_
        simp only [Act.put, List.setIfInBounds_toArray, List.set_cons_zero, List.set_cons_succ]
        refine wpT_is (fun _ => Below.refl _ _) rfl (fun wx hC hS => by go_simp <;> rfl) ?_
        simp only [Act.put, List.setIfInBounds_toArray, List.set_cons_zero, List.set_cons_succ]
        refine wpT_is (fun _ => Below.refl _ _) rfl (fun wx hC hS => by go_simp <;> rfl) ?_
        simp only [Act.put, List.setIfInBounds_toArray, List.set_cons_zero, List.set_cons_succ]
        refine wpT_is (fun _ => Below.refl _ _) rfl (fun wx hC hS => by go_simp <;> rfl) ?_
        simp only [Act.put, List.setIfInBounds_toArray, List.set_cons_zero, List.set_cons_succ]
        refine wpT_nil fun wx hC _ => ?_
        go_wp2_with fail
        go_meet
        exact ⟨rfl, rfl, rfl, h02.trans (hC.mono h02.size)⟩
  case rest =>
    obtain ⟨rfl, rfl, rfl, h0a⟩ := hcut
    clear HRAW HNIL hrs2 hs2 hb2 h02
    have hra := hr.below h0a
    have hEa := hE.below h0a
    go_wp2_with fail
    go_loopw [52] (fun i wr => ∃ k : Nat, k ≤ rs.length ∧ i = .int .i64 (k : Int) ∧ Hid (∀ r ∈ rs.take k, r.text.length ≤ 100 ∧ r.raw.length ≤ 100) ∧ Below wc.heap.size wc wr) (fun i _ => rs.length - (intOf i).toNat)
    case atStart => exact ⟨0, by omega, rfl, Lib.hid (by simp), Below.refl _ _⟩
    case round =>
      obtain ⟨k, hk, rfl, HS, hbr⟩ := hrel
      have hsz := hbr.size
      by_cases hlt : k < rs.length
      · obtain ⟨g, o, rfl, hg, d0, d1, d2, d3, d4⟩ := (hra.below (hbr.mono h0a.size)).at_ hlt
        have HT := Lib.hid (show rs.take (k + 1) = rs.take k ++ [rs[k]] from List.take_succ_eq_append_getElem hlt)
        have hFx := HF.out rs[k] (List.getElem_mem hlt)
        generalize rs[k] = x at *
        by_cases hsm : x.text.length ≤ 100 ∧ x.raw.length ≤ 100
        · have s1 : (str x.text).size ≤ 100 := by rw [strSize]; exact hsm.1
          have s2 : (str x.raw).size ≤ 100 := by rw [strSize]; exact hsm.2
          have HS2 := Lib.hid (show ∀ r ∈ rs.take (k + 1), r.text.length ≤ 100 ∧ r.raw.length ≤ 100 from fun r hr => by
            rw [HT.out] at hr
            rcases List.mem_append.1 hr with h | h
            · exact HS.out r h
            · rw [List.mem_singleton.1 h]; exact hsm)
          clear hsm hFx
          have hb3 := fun o => hbr.alloc hsz o
          go_wp2_with fail
          go_roundw
          case rel => exact ⟨k + 1, by omega, by go_num, HS2, hb3 _⟩
          case measure => simp [intOf]; omega
        · have s3 : (100 : Int) < ((str x.text).size : Int) ∨ ¬ (100 : Int) < ((str x.text).size : Int) ∧ (100 : Int) < ((str x.raw).size : Int) := by rw [strSize, strSize]; omega
          have s1 : (str x.text).size ≤ 9223372036854775807 := by rw [strSize]; have := hFx.text; unfold maxLen at this; omega
          have s2 : (str x.raw).size ≤ 9223372036854775807 := by rw [strSize]; have := hFx.raw; unfold maxLen at this; omega
          have hb3 := fun o => h0a.trans ((hbr.alloc hsz o).mono h0a.size)
          clear hsm hFx
          rcases s3 with s3 | ⟨s3, s4⟩
          all_goals
            go_wp2_with fail
            go_ret
            exact ⟨rfl, hb3 _⟩
      · obtain rfl : k = rs.length := by omega
        have hsm : ∀ r ∈ rs, r.text.length ≤ 100 ∧ r.raw.length ≤ 100 := by
          have := HS.out
          rwa [List.take_length] at this
        have HSM := Lib.hid hsm
        obtain ⟨wo, hwo⟩ : ∃ wo : World, wo = wr := ⟨_, rfl⟩
        rw [← hwo] at hbr ⊢
        clear hwo hsm HS
        have h0o := h0a.trans (hbr.mono h0a.size)
        have hEo := hE.below h0o
        have hro := hr.below h0o
        have HPA := Lib.hid (putAll_any wo A hEo q rs d w.heap.size h0o.size hro (by omega) (fun r hr => ⟨HF.out r hr, by have := (HSM.out r hr).1; omega⟩))
        have hpa := fun h => pall_all rs h
        have hJ : pall rs = joinB [] (pall (rs.drop 0)) := by rw [List.drop_zero, joinB_nil]
        generalize hPR : pall rs = PR at *
        obtain ⟨Z, e⟩ := PR
        simp only at HPA hpa
        have HJ := Lib.hid (show ∃ out, (Z, e) = joinB out (pall (rs.drop 0)) from ⟨[], hJ⟩)
        have HPALL := Lib.hid hpa
        clear hJ hPR hpa hsz
        go_wp2_with fail
        refine HPA.out.mono ?_
        rintro e' w3 ⟨v3, rfl, hown3, hb3⟩
        obtain ⟨q3, c3, rfl, hs3, hc3, hm3⟩ := own_sl hown3
        have h03 := h0o.trans (hb3.mono h0o.size)
        have hE3 := hE.below h03
        have hr3 := hr.below h03
        clear HPA hown3 hb3 hEo hro h0o hbr hEa hra
        go_wp2_with fail
        go_loopw [74] (fun i wr => ∃ k : Nat, k ≤ rs.length ∧ i = .int .i64 (k : Int) ∧ Hid (∃ out, (Z, e) = joinB out (pall (rs.drop k))) ∧ Hid (∀ r ∈ rs.take k, r.check = 0) ∧ Below w3.heap.size w3 wr) (fun i _ => rs.length - (intOf i).toNat)
        case atStart => exact ⟨0, by omega, rfl, HJ, Lib.hid (by simp), Below.refl _ _⟩
        case round =>
          obtain ⟨k, hk, rfl, HJ, HS, hbr⟩ := hrel
          have hsz := hbr.size
          by_cases hlt : k < rs.length
          · obtain ⟨g, o, rfl, hg, d0, d1, d2, d3, d4⟩ := (hr3.below (hbr.mono h03.size)).at_ hlt
            have HT := Lib.hid (show rs.take (k + 1) = rs.take k ++ [rs[k]] from List.take_succ_eq_append_getElem hlt)
            have HC := fun ob => recCheck_any (wr.alloc ob) A ((hE3.below hbr).below ((Below.refl _ _).alloc (Nat.le_refl _) ob)) rs[k].n rs[k].k rs[k].bits rs[k].text rs[k].raw
            rw [show rcheck rs[k].n rs[k].k rs[k].bits rs[k].text = rs[k].check from rfl] at HC
            have HC := Lib.hid HC
            by_cases hck : rs[k].check = 0
            · have HJ2 := Lib.hid (show ∃ out, (Z, e) = joinB out (pall (rs.drop (k + 1))) from by
                obtain ⟨out, h⟩ := HJ.out
                exact ⟨out ++ rs[k].put, h.trans (joinB_step hlt hck out)⟩)
              have HS2 := Lib.hid (show ∀ r ∈ rs.take (k + 1), r.check = 0 from fun r hr => by
                rw [HT.out] at hr
                rcases List.mem_append.1 hr with h | h
                · exact HS.out r h
                · rw [List.mem_singleton.1 h]; exact hck)
              rw [hck, show errOf A 0 = Value.nilIface from rfl] at HC
              generalize rs[k] = x at *
              unfold recV at HC
              clear hck HT HJ HS
              go_wp2_with fail
              refine (HC.out _).mono ?_
              rintro e2 w4 ⟨rfl, hb4⟩
              have hb5 := (hbr.alloc hsz _).trans (hb4.mono (by simp; omega))
              clear d0 d1 d2 d3 d4 HC hb4
              go_wp2_with fail
              go_roundw
              case rel => exact ⟨k + 1, by omega, by go_num, HJ2, HS2, hb5⟩
              case measure => simp [intOf]; omega
            · have hZe : (Z, e) = ([], rs[k].check) := by
                obtain ⟨out, h⟩ := HJ.out
                exact h.trans (joinB_bad hlt hck out)
              have hle := rcheck_le rs[k].n rs[k].k rs[k].bits rs[k].text
              rw [show rcheck rs[k].n rs[k].k rs[k].bits rs[k].text = rs[k].check from rfl] at hle
              obtain ⟨b, hb⟩ := Nat.exists_eq_succ_of_ne_zero hck
              rw [hb] at hZe HC hle
              obtain ⟨rfl, rfl⟩ : Z = [] ∧ e = b.succ := ⟨congrArg Prod.fst hZe, congrArg Prod.snd hZe⟩
              rw [show errOf A b.succ = errV A b from rfl] at HC ⊢
              have hne := neq_errV A b
              have hb19 : b < 19 := by omega
              generalize rs[k] = x at *
              unfold recV at HC
              have HNM := Lib.hid (fun ws hE => num_err ws A hE b hb19)
              clear hck HT HJ HS hb hZe hle
              go_wp2_with fail
              refine (HC.out _).mono ?_
              rintro e2 w4 ⟨rfl, hb4⟩
              have hb5 := (hbr.alloc hsz _).trans (hb4.mono (by simp; omega))
              have h05 := h03.trans (hb5.mono h03.size)
              clear d0 d1 d2 d3 d4 HC hb4
              go_wp2_with fail
              refine (HNM.out w4 (hE.below h05)).mono ?_
              rintro e3 w5 ⟨rfl, hb6⟩
              have h06 := h05.trans (hb6.mono h05.size)
              go_wp2_with fail
              refine (HNM.out w5 (hE.below h06)).mono ?_
              rintro e4 w6 ⟨rfl, hb7⟩
              have h07 := h06.trans (hb7.mono h06.size)
              go_wp2_with fail
              go_ret
              exact ⟨rfl, h07⟩
          · obtain rfl : k = rs.length := by omega
            have hck : ∀ r ∈ rs, r.check = 0 := by
              have := HS.out
              rwa [List.take_length] at this
            obtain ⟨he, hZl, hZr⟩ := HPALL.out fun r hr => ⟨hck r hr, (HF.out r hr).bits, by have := (HSM.out r hr).1; omega⟩
            subst he
            have HCK := Lib.hid hck
            obtain ⟨wo2, hwo⟩ : ∃ wo2 : World, wo2 = wr := ⟨_, rfl⟩
            rw [← hwo] at hbr ⊢
            clear hwo hck HS HJ HPALL HSM
            have h0p := h03.trans (hbr.mono h03.size)
            have HBA := recAll_any wo2 A (hE.below h0p) q3 Z c3 w3.heap.size (by omega) hc3 hm3 hbr.size (hs3.below hbr)
            unfold RecsL at HBA
            rw [hZr] at HBA
            simp only at HBA
            obtain ⟨zs, hzs⟩ : ∃ zs, zs = (rs.map dOf).map RecD.i := ⟨_, rfl⟩
            rw [← hzs] at HBA
            have hzl : zs.length = rs.length := by rw [hzs, List.length_map, List.length_map]
            have HZG := Lib.hid (show ∀ (k : Nat) (h : k < rs.length) (h' : k < zs.length), zs[k] = ⟨rs[k].n, rs[k].k, rs[k].bits, rs[k].text, rs[k].put⟩ from fun k h h' => by
              simp only [hzs, List.getElem_map]
              exact dOf_i (HCK.out _ (List.getElem_mem h)))
            have HBA := Lib.hid HBA
            have HZL := Lib.hid hzl
            clear hzs hZr hZl hzl
            rw [show errOf A 0 = Value.nilIface from rfl] at HBA ⊢
            go_wp2_with fail
            refine HBA.out.mono ?_
            rintro e2 w4 ⟨v4, rfl, hown4, hb4⟩
            obtain ⟨q4, c4, rfl, hrs4, hc4, _⟩ := own_rs hown4
            rw [HZL.out]
            have h04 := h0p.trans (hb4.mono h0p.size)
            have hr4 := hr.below h04
            clear HBA hown4 hb4 h0p
            go_wp2_with fail
            go_loopw [113] (fun i wr => ∃ k : Nat, k ≤ rs.length ∧ i = .int .i64 (k : Int) ∧ Below w4.heap.size w4 wr) (fun i _ => rs.length - (intOf i).toNat)
            case atStart => exact ⟨0, by omega, rfl, Below.refl _ _⟩
            case round =>
              obtain ⟨k, hk, rfl, hbr⟩ := hrel
              have hsz := hbr.size
              by_cases hlt : k < rs.length
              · have hlt' : k < zs.length := by rw [HZL.out]; exact hlt
                obtain ⟨g, o, rfl, hg, d0, d1, d2, d3, d4⟩ := (hrs4.below hbr).at_ hlt'
                rw [HZG.out k hlt hlt'] at d0 d1 d2 d3 d4
                dsimp only at d0 d1 d2 d3 d4
                obtain ⟨g9, o9, rfl, hg9, f0, f1, f2, f3, f4⟩ := (hr4.below (hbr.mono h04.size)).at_ hlt
                generalize rs[k] = x at *
                generalize x.put = z at *
                obtain ⟨wa, hwa⟩ : ∃ wa, wa = wr.alloc (.cells #[.int .i64 x.n, .int .i64 x.k, .int .u64 (x.bits : Int), .string (str x.text), .string (str z)] 29) := ⟨_, rfl⟩
                have hba : Below wr.heap.size wr wa := hwa ▸ (Below.refl _ _).alloc (Nat.le_refl _) _
                have hka : Blk wa wr.heap.size 29 (recCells x.n x.k x.bits x.text z) := hwa ▸ Blk.new wr _ _
                have hlt9 : g9 < wr.heap.size := by have := h04.size; omega
                have HC9 := Lib.hid (fun wx (h : Below wa.heap.size wa wx) (j : Nat) => show wx.cell? ⟨g9, j, none⟩ = wr.cell? ⟨g9, j, none⟩ from
                  (h.cell (p := ⟨g9, j, none⟩) (by have := hba.size; simp; omega)).trans (hba.cell (p := ⟨g9, j, none⟩) hlt9))
                clear hlt'
                go_wp2_with fail
                rw [← hwa]
                clear hwa
                refine wp_region_grow (Below wa.heap.size wa) (fun u u' => Below u.heap.size u u') (.is (.pointer (some ⟨wr.heap.size, 0, none⟩)) :: .is (.agg #[.int .i64 x.n, .int .i64 x.k]) :: .is (.slice (some ⟨g9, o9, none⟩) rs.length d) :: .is (.int .i64 (k : Int)) :: .is (.pointer (some ⟨g9, o9 + k * 5, none⟩)) :: .is (.pointer (some ⟨g9, o9 + k * 5, none⟩)) :: .is (.agg #[.int .i64 x.n, .int .i64 x.k]) :: .is (.bool false) :: .is (.bool false) :: .is (.pointer (some ⟨wr.heap.size, 2, none⟩)) :: .is (.int .u64 (x.bits : Int)) :: .is (.slice (some ⟨g9, o9, none⟩) rs.length d) :: .is (.int .i64 (k : Int)) :: .is (.pointer (some ⟨g9, o9 + k * 5, none⟩)) :: .is (.pointer (some ⟨g9, o9 + k * 5 + 2, none⟩)) :: .is (.int .u64 (x.bits : Int)) :: .is (.bool false) :: .is (.bool false) :: .is (.bool false) :: .is (.pointer (some ⟨wr.heap.size, 3, none⟩)) :: .is (.string (str x.text)) :: .is (.slice (some ⟨g9, o9, none⟩) rs.length d) :: .is (.int .i64 (k : Int)) :: .is (.pointer (some ⟨g9, o9 + k * 5, none⟩)) :: .is (.pointer (some ⟨g9, o9 + k * 5 + 3, none⟩)) :: .is (.string (str x.text)) :: .is (.bool false) :: .is (.bool false) :: []) (by kernel_rfl) (by kernel_rfl) (fun u u' h hC => hC.trans (h.mono hC.size)) (by repeat (first | exact trivial | refine ⟨by first | exact stay_is | exact stay_holds _, ?_⟩)) ((Below.refl _ _).drew) ?h3
                case h3 =>
                  refine wpT_is (fun _ => Below.refl _ _) rfl (fun wx hC hS => by go_simp <;> rfl) ?_
                  simp only [Act.put, List.setIfInBounds_toArray, List.set_cons_zero, List.set_cons_succ]
                  refine wpT_is (fun _ => Below.refl _ _) rfl (fun wx hC hS => by obtain ⟨e0, e1, e2, e3, e4⟩ := cells5 (hka.below hC hka.lt); go_simp <;> rfl) ?_
                  simp only [Act.put, List.setIfInBounds_toArray, List.set_cons_zero, List.set_cons_succ]
                  refine wpT_is (fun _ => Below.refl _ _) rfl (fun wx hC hS => by go_simp <;> rfl) ?_
                  simp only [Act.put, List.setIfInBounds_toArray, List.set_cons_zero, List.set_cons_succ]
                  refine wpT_is (fun _ => Below.refl _ _) rfl (fun wx hC hS => by go_simp <;> rfl) ?_
                  simp only [Act.put, List.setIfInBounds_toArray, List.set_cons_zero, List.set_cons_succ]
                  refine wpT_is (fun _ => Below.refl _ _) rfl (fun wx hC hS => by go_simp <;> rfl) ?_
                  simp only [Act.put, List.setIfInBounds_toArray, List.set_cons_zero, List.set_cons_succ]
                  refine wpT_is (fun _ => Below.refl _ _) rfl (fun wx hC hS => by go_simp <;> rfl) ?_
                  simp only [Act.put, List.setIfInBounds_toArray, List.set_cons_zero, List.set_cons_succ]
                  refine wpT_is (fun _ => Below.refl _ _) rfl (fun wx hC hS => by have e0 := (HC9.out wx hC _).trans f0; have e1 := (HC9.out wx hC _).trans f1; have e2 := (HC9.out wx hC _).trans f2; have e3 := (HC9.out wx hC _).trans f3; have e4 := (HC9.out wx hC _).trans f4; go_simp <;> rfl) ?_
                  simp only [Act.put, List.setIfInBounds_toArray, List.set_cons_zero, List.set_cons_succ]
                  refine wpT_is (fun _ => Below.refl _ _) rfl (fun wx hC hS => by go_simp <;> rfl) ?_
                  simp only [Act.put, List.setIfInBounds_toArray, List.set_cons_zero, List.set_cons_succ]
                  refine wpT_is (fun _ => Below.refl _ _) rfl (fun wx hC hS => by go_simp <;> rfl) ?_
                  simp only [Act.put, List.setIfInBounds_toArray, List.set_cons_zero, List.set_cons_succ]
                  refine wpT_is (fun _ => Below.refl _ _) rfl (fun wx hC hS => by go_simp <;> rfl) ?_
                  simp only [Act.put, List.setIfInBounds_toArray, List.set_cons_zero, List.set_cons_succ]
                  refine wpT_is (fun _ => Below.refl _ _) rfl (fun wx hC hS => by obtain ⟨e0, e1, e2, e3, e4⟩ := cells5 (hka.below hC hka.lt); go_simp <;> rfl) ?_
                  simp only [Act.put, List.setIfInBounds_toArray, List.set_cons_zero, List.set_cons_succ]
                  refine wpT_is (fun _ => Below.refl _ _) rfl (fun wx hC hS => by go_simp <;> rfl) ?_
                  simp only [Act.put, List.setIfInBounds_toArray, List.set_cons_zero, List.set_cons_succ]
                  refine wpT_is (fun _ => Below.refl _ _) rfl (fun wx hC hS => by go_simp <;> rfl) ?_
                  simp only [Act.put, List.setIfInBounds_toArray, List.set_cons_zero, List.set_cons_succ]
                  refine wpT_is (fun _ => Below.refl _ _) rfl (fun wx hC hS => by go_simp <;> rfl) ?_
                  simp only [Act.put, List.setIfInBounds_toArray, List.set_cons_zero, List.set_cons_succ]
                  refine wpT_is (fun _ => Below.refl _ _) rfl (fun wx hC hS => by go_simp <;> rfl) ?_
                  simp only [Act.put, List.setIfInBounds_toArray, List.set_cons_zero, List.set_cons_succ]
                  refine wpT_is (fun _ => Below.refl _ _) rfl (fun wx hC hS => by have e0 := (HC9.out wx hC _).trans f0; have e1 := (HC9.out wx hC _).trans f1; have e2 := (HC9.out wx hC _).trans f2; have e3 := (HC9.out wx hC _).trans f3; have e4 := (HC9.out wx hC _).trans f4; go_simp <;> rfl) ?_
                  simp only [Act.put, List.setIfInBounds_toArray, List.set_cons_zero, List.set_cons_succ]
                  refine wpT_is (fun _ => Below.refl _ _) rfl (fun wx hC hS => by go_simp <;> rfl) ?_
                  simp only [Act.put, List.setIfInBounds_toArray, List.set_cons_zero, List.set_cons_succ]
                  refine wpT_is (fun _ => Below.refl _ _) rfl (fun wx hC hS => by go_simp <;> rfl) ?_
                  simp only [Act.put, List.setIfInBounds_toArray, List.set_cons_zero, List.set_cons_succ]
                  refine wpT_is (fun _ => Below.refl _ _) rfl (fun wx hC hS => by go_simp <;> rfl) ?_
                  simp only [Act.put, List.setIfInBounds_toArray, List.set_cons_zero, List.set_cons_succ]
                  refine wpT_is (fun _ => Below.refl _ _) rfl (fun wx hC hS => by go_simp <;> rfl) ?_
                  simp only [Act.put, List.setIfInBounds_toArray, List.set_cons_zero, List.set_cons_succ]
                  refine wpT_is (fun _ => Below.refl _ _) rfl (fun wx hC hS => by obtain ⟨e0, e1, e2, e3, e4⟩ := cells5 (hka.below hC hka.lt); go_simp <;> rfl) ?_
                  simp only [Act.put, List.setIfInBounds_toArray, List.set_cons_zero, List.set_cons_succ]
                  refine wpT_is (fun _ => Below.refl _ _) rfl (fun wx hC hS => by go_simp <;> rfl) ?_
                  simp only [Act.put, List.setIfInBounds_toArray, List.set_cons_zero, List.set_cons_succ]
                  refine wpT_is (fun _ => Below.refl _ _) rfl (fun wx hC hS => by go_simp <;> rfl) ?_
                  simp only [Act.put, List.setIfInBounds_toArray, List.set_cons_zero, List.set_cons_succ]
                  refine wpT_is (fun _ => Below.refl _ _) rfl (fun wx hC hS => by go_simp <;> rfl) ?_
                  simp only [Act.put, List.setIfInBounds_toArray, List.set_cons_zero, List.set_cons_succ]
                  refine wpT_is (fun _ => Below.refl _ _) rfl (fun wx hC hS => by go_simp <;> rfl) ?_
                  simp only [Act.put, List.setIfInBounds_toArray, List.set_cons_zero, List.set_cons_succ]
                  refine wpT_is (fun _ => Below.refl _ _) rfl (fun wx hC hS => by have e0 := (HC9.out wx hC _).trans f0; have e1 := (HC9.out wx hC _).trans f1; have e2 := (HC9.out wx hC _).trans f2; have e3 := (HC9.out wx hC _).trans f3; have e4 := (HC9.out wx hC _).trans f4; go_simp <;> rfl) ?_
                  simp only [Act.put, List.setIfInBounds_toArray, List.set_cons_zero, List.set_cons_succ]
                  refine wpT_is (fun _ => Below.refl _ _) rfl (fun wx hC hS => by go_simp <;> rfl) ?_
                  simp only [Act.put, List.setIfInBounds_toArray, List.set_cons_zero, List.set_cons_succ]
                  refine wpT_is (fun _ => Below.refl _ _) rfl (fun wx hC hS => by go_simp <;> rfl) ?_
                  simp only [Act.put, List.setIfInBounds_toArray, List.set_cons_zero, List.set_cons_succ]
                  refine wpT_nil fun wb hbb _ => ?_
                  have hbe : Below w4.heap.size w4 wb := hbr.trans ((hba.trans (hbb.mono hba.size)).mono hsz)
                  clear HC9 hka hba hbb d0 d1 d2 d3 d4 f0 f1 f2 f3 f4
                  go_wp2_with fail
                  go_roundw
                  case rel => exact ⟨k + 1, by omega, by go_num, hbe⟩
                  case measure => simp [intOf]; omega
              · obtain rfl : k = rs.length := by omega
                go_wp2_with fail
                go_ret
                exact ⟨rfl, h04.trans (hbr.mono h04.size)⟩

theorem rraws_any (w : World) (A : Nat → Addr) (hE : Errs w A) (p : Option Addr) (l : List UInt8) (c : Nat) (q : Option Addr) (rs : List RecI) (d : Nat) (hs : Sl w w.heap.size p l) (hc : l.length ≤ c) (hm : c ≤ maxLen) (hr : Rs w w.heap.size q rs) (hF : ∀ r ∈ rs, r.Fine) :
    Calls Tryd.prog 5 #[.slice p l.length c, .slice q rs.length d] w fun e w' => e = .returned (.bool true) ∧ Below w.heap.size w w' := by
  by_cases h1 : 400 < l.length
  · exact rraws_far w A hE p l c q rs d (.inl h1)
  · by_cases h2 : 20 < rs.length
    · exact rraws_far w A hE p l c q rs d (.inr ⟨h1, h2⟩)
    · exact rraws_near w A hE p l c q rs d hs hc hm hr hF (by omega) (by omega)
end Go.Proofs.YtlndejanojgjlaaDoor
