/- The contracts of package redlineref10's calls: what the document tells of a kind. Condition: numbers are of their types. -/
import Derived.Test.YtnokjainniihkaaDoorKindProg
import Derived.Test.YtnokjainniihkaaDoorKindOf
namespace Go.Proofs.YtnokjainniihkaaDoor
open Go.RowKit

/-- What a call answers that only reckons. -/
def Plain (f : FuncId) (w : World) (args : Array Value) (v : Value) : Prop := Calls Tryd.prog f args w fun e w' => e = .returned v ∧ w = w'
theorem kn_none {z : Int} (h : z < 1 ∨ 17 < z) : kn z = 0 := by rcases h with h | h; exact kn_low z h; exact kn_high z h
set_option maxRecDepth 100000 in
theorem rNumber_any (w : World) (z : Int) : Plain 9 w #[.int .i64 z] (.bool (knumB (kn z))) := by
  refine kcases (P := fun z => Plain 9 w #[.int .i64 z] (.bool (knumB (kn z)))) (fun z h => ?_) (fun z h => ?_) ?_ ?_ ?_ ?_ ?_ ?_ ?_ ?_ ?_ ?_ ?_ ?_ ?_ ?_ ?_ ?_ ?_ z
  · rw [kn_low z h]
    unfold Plain
    have h2 : ¬ z = 16 := by omega
    have h3 : ¬ 1 ≤ z := by omega
    have h4 : ¬ 3 ≤ z := by omega
    have h7 : (z == 16) = false := beq_eq_false_iff_ne.2 (by omega)
    go_enter Tryd.func9, Tryd.ntmps9
    go_wp2
    go_ret
    exact ⟨rfl, rfl⟩
  · rw [kn_high z h]
    unfold Plain
    have h1 : ¬ z < 1 := by omega
    have h2 : ¬ z = 16 := by omega
    have h3 : ¬ z ≤ 13 := by omega
    have h4 : ¬ z ≤ 14 := by omega
    have h5 : 1 ≤ z := by omega
    have h6 : 3 ≤ z := by omega
    have h7 : (z == 16) = false := beq_eq_false_iff_ne.2 (by omega)
    go_enter Tryd.func9, Tryd.ntmps9
    go_wp2
    go_ret
    exact ⟨rfl, rfl⟩
  all_goals
    unfold Plain
    go_enter Tryd.func9, Tryd.ntmps9
    go_wp2
    go_ret
    exact ⟨rfl, rfl⟩
set_option maxRecDepth 100000 in
theorem rKeys_any (w : World) (z : Int) : Plain 14 w #[.int .i64 z] (.bool (kkeyB (kn z))) := by
  refine kcases (P := fun z => Plain 14 w #[.int .i64 z] (.bool (kkeyB (kn z)))) (fun z h => ?_) (fun z h => ?_) ?_ ?_ ?_ ?_ ?_ ?_ ?_ ?_ ?_ ?_ ?_ ?_ ?_ ?_ ?_ ?_ ?_ z
  · rw [kn_low z h]
    unfold Plain
    have h2 : ¬ z = 16 := by omega
    have h3 : ¬ 1 ≤ z := by omega
    have h4 : ¬ 3 ≤ z := by omega
    have h7 : (z == 16) = false := beq_eq_false_iff_ne.2 (by omega)
    go_enter Tryd.func14, Tryd.ntmps14
    go_wp2
    go_ret
    exact ⟨rfl, rfl⟩
  · rw [kn_high z h]
    unfold Plain
    have h1 : ¬ z < 1 := by omega
    have h2 : ¬ z = 16 := by omega
    have h3 : ¬ z ≤ 13 := by omega
    have h4 : ¬ z ≤ 14 := by omega
    have h5 : 1 ≤ z := by omega
    have h6 : 3 ≤ z := by omega
    have h7 : (z == 16) = false := beq_eq_false_iff_ne.2 (by omega)
    go_enter Tryd.func14, Tryd.ntmps14
    go_wp2
    go_ret
    exact ⟨rfl, rfl⟩
  all_goals
    unfold Plain
    go_enter Tryd.func14, Tryd.ntmps14
    go_wp2
    go_ret
    exact ⟨rfl, rfl⟩
set_option maxRecDepth 100000 in
theorem rWire_any (w : World) (z : Int) : Plain 16 w #[.int .i64 z] (.int .i64 (kwire (kn z))) := by
  refine kcases (P := fun z => Plain 16 w #[.int .i64 z] (.int .i64 (kwire (kn z)))) (fun z h => ?_) (fun z h => ?_) ?_ ?_ ?_ ?_ ?_ ?_ ?_ ?_ ?_ ?_ ?_ ?_ ?_ ?_ ?_ ?_ ?_ z
  · rw [kn_low z h]
    unfold Plain
    have h2 : ¬ z = 16 := by omega
    have h3 : ¬ 1 ≤ z := by omega
    have h4 : ¬ 3 ≤ z := by omega
    have h7 : (z == 16) = false := beq_eq_false_iff_ne.2 (by omega)
    go_enter Tryd.func16, Tryd.ntmps16
    go_wp2
    go_ret
    exact ⟨rfl, rfl⟩
  · rw [kn_high z h]
    unfold Plain
    have h1 : ¬ z < 1 := by omega
    have h2 : ¬ z = 16 := by omega
    have h3 : ¬ z ≤ 13 := by omega
    have h4 : ¬ z ≤ 14 := by omega
    have h5 : 1 ≤ z := by omega
    have h6 : 3 ≤ z := by omega
    have h7 : (z == 16) = false := beq_eq_false_iff_ne.2 (by omega)
    go_enter Tryd.func16, Tryd.ntmps16
    go_wp2
    go_ret
    exact ⟨rfl, rfl⟩
  all_goals
    unfold Plain
    go_enter Tryd.func16, Tryd.ntmps16
    go_wp2
    go_ret
    exact ⟨rfl, rfl⟩
set_option maxRecDepth 100000 in
set_option maxHeartbeats 4000000 in
theorem rName_any (w : World) (z : Int) : Tells 8 w #[.int .i64 z] (.string (str (kname (kn z)))) := by
  refine kcases (P := fun z => Tells 8 w #[.int .i64 z] (.string (str (kname (kn z))))) (fun z h => ?_) (fun z h => ?_) ?_ ?_ ?_ ?_ ?_ ?_ ?_ ?_ ?_ ?_ ?_ ?_ ?_ ?_ ?_ ?_ ?_ z
  · rw [kn_low z h]
    unfold Tells
    go_enter Tryd.func8, Tryd.ntmps8
    go_wp2
    go_ret
    exact ⟨rfl, Below.refl _ _⟩
  · rw [kn_high z h]
    unfold Tells
    have h1 : ¬ z < 1 := by omega
    go_enter Tryd.func8, Tryd.ntmps8
    go_wp2
    go_ret
    exact ⟨rfl, Below.refl _ _⟩
  all_goals
    unfold Tells
    go_enter Tryd.func8, Tryd.ntmps8
    go_wp2
    go_ret
    exact ⟨rfl, (Below.refl _ _).alloc (Nat.le_refl _) _⟩
set_option maxRecDepth 100000 in
theorem rSigned_any (w : World) (n : Nat) : Plain 25 w #[.int .u64 (n : Int)] (.int .u64 (ksgn n : Int)) := by
  unfold Plain
  by_cases h : 2147483648 ≤ n % 4294967296
  · have e : Hid ((n : Int) % 4294967296 + 18446744069414584320 = (ksgn n : Int)) := Lib.hid (by unfold ksgn; rw [if_pos h]; omega)
    have h' : (2147483648 : Int) ≤ (n : Int) % 4294967296 := by omega
    have hwr : IntKind.u64.wrap ((n : Int) % 4294967296 + 18446744069414584320) = (n : Int) % 4294967296 + 18446744069414584320 := by rw [IntKind.wrap_u64]; omega
    clear h
    go_enter Tryd.func25, Tryd.ntmps25
    go_wp2
    go_ret
    exact ⟨ret_u64 e.out, rfl⟩
  · have e : Hid ((n : Int) % 4294967296 = (ksgn n : Int)) := Lib.hid (by unfold ksgn; rw [if_neg h]; omega)
    have h' : ¬ (2147483648 : Int) ≤ (n : Int) % 4294967296 := by omega
    clear h
    go_enter Tryd.func25, Tryd.ntmps25
    go_wp2
    go_ret
    exact ⟨ret_u64 e.out, rfl⟩
theorem kzag_conv (n : Nat) (h : n < 18446744073709551616) : IntKind.u64.wrap (zag n) = (kzag n : Int) := zag_is n h
set_option maxRecDepth 100000 in
theorem rFit_any (w : World) (z : Int) (n : Nat) (hn : n < 18446744073709551616) : Plain 18 w #[.int .i64 z, .int .u64 (n : Int)] (.int .u64 (kfit (kn z) n : Int)) := by
  have HN := Lib.hid (rNumber_any w)
  have Hn := Lib.hid hn
  clear hn
  refine kcases (P := fun z => Plain 18 w #[.int .i64 z, .int .u64 (n : Int)] (.int .u64 (kfit (kn z) n : Int))) (fun z h => ?_) (fun z h => ?_) ?_ ?_ ?_ ?_ ?_ ?_ ?_ ?_ ?_ ?_ ?_ ?_ ?_ ?_ ?_ ?_ ?_ z
  · rw [(kright_num (kn z) n (by rw [kn_low z h]; rfl)).2.1]
    have H := HN.out z
    rw [kn_low z h] at H
    have H1 := Lib.hid H
    unfold Plain at H1 ⊢
    have a3 : ¬ z = 3 := by omega
    have a11 : ¬ z = 11 := by omega
    have a16 : ¬ z = 16 := by omega
    have a2 : ¬ z = 2 := by omega
    have a5 : ¬ z = 5 := by omega
    have a9 : ¬ z = 9 := by omega
    have a7 : ¬ z = 7 := by omega
    have a8 : ¬ z = 8 := by omega
    have a13 : ¬ z = 13 := by omega
    clear H h HN
    go_enter Tryd.func18, Tryd.ntmps18
    go_wp2_with fail
    refine H1.out.mono ?_
    rintro e w1 ⟨rfl, rfl⟩
    go_wp2_with fail
    go_ret
    exact ⟨rfl, rfl⟩
  · rw [(kright_num (kn z) n (by rw [kn_high z h]; rfl)).2.1]
    have H := HN.out z
    rw [kn_high z h] at H
    have H1 := Lib.hid H
    unfold Plain at H1 ⊢
    have a3 : ¬ z = 3 := by omega
    have a11 : ¬ z = 11 := by omega
    have a16 : ¬ z = 16 := by omega
    have a2 : ¬ z = 2 := by omega
    have a5 : ¬ z = 5 := by omega
    have a9 : ¬ z = 9 := by omega
    have a7 : ¬ z = 7 := by omega
    have a8 : ¬ z = 8 := by omega
    have a13 : ¬ z = 13 := by omega
    clear H h HN
    go_enter Tryd.func18, Tryd.ntmps18
    go_wp2_with fail
    refine H1.out.mono ?_
    rintro e w1 ⟨rfl, rfl⟩
    go_wp2_with fail
    go_ret
    exact ⟨rfl, rfl⟩
  · have H := HN.out 1
    have H1 : Hid (Calls Tryd.prog 9 #[.int .i64 1] w fun e w' => e = .returned (.bool true) ∧ w = w') := Lib.hid H
    clear H HN
    unfold Plain
    go_enter Tryd.func18, Tryd.ntmps18
    go_wp2_with fail
    refine H1.out.mono ?_
    rintro e w1 ⟨rfl, rfl⟩
    go_wp2_with fail
    go_ret
    exact ⟨rfl, rfl⟩
  · have H := HN.out 2
    have H1 : Hid (Calls Tryd.prog 9 #[.int .i64 2] w fun e w' => e = .returned (.bool true) ∧ w = w') := Lib.hid H
    clear H HN
    unfold Plain
    clear H1
    go_enter Tryd.func18, Tryd.ntmps18
    go_wp2_with fail
    go_ret
    exact ⟨rfl, rfl⟩
  · have H := HN.out 3
    have H1 : Hid (Calls Tryd.prog 9 #[.int .i64 3] w fun e w' => e = .returned (.bool true) ∧ w = w') := Lib.hid H
    clear H HN
    unfold Plain
    have G := Lib.hid (rSigned_any w n)
    unfold Plain at G
    change Calls _ _ _ _ fun e w' => e = .returned (.int .u64 (ksgn n : Int)) ∧ w = w'
    generalize ksgn n = m at *
    clear H1
    go_enter Tryd.func18, Tryd.ntmps18
    go_wp2_with fail
    refine G.out.mono ?_
    rintro e w1 ⟨rfl, rfl⟩
    go_wp2_with fail
    go_ret
    exact ⟨rfl, rfl⟩
  · have H := HN.out 4
    have H1 : Hid (Calls Tryd.prog 9 #[.int .i64 4] w fun e w' => e = .returned (.bool true) ∧ w = w') := Lib.hid H
    clear H HN
    unfold Plain
    go_enter Tryd.func18, Tryd.ntmps18
    go_wp2_with fail
    refine H1.out.mono ?_
    rintro e w1 ⟨rfl, rfl⟩
    go_wp2_with fail
    go_ret
    exact ⟨rfl, rfl⟩
  · have H := HN.out 5
    have H1 : Hid (Calls Tryd.prog 9 #[.int .i64 5] w fun e w' => e = .returned (.bool true) ∧ w = w') := Lib.hid H
    clear H HN
    unfold Plain
    clear H1
    go_enter Tryd.func18, Tryd.ntmps18
    go_wp2_with fail
    go_ret
    exact ⟨rfl, rfl⟩
  · have H := HN.out 6
    have H1 : Hid (Calls Tryd.prog 9 #[.int .i64 6] w fun e w' => e = .returned (.bool true) ∧ w = w') := Lib.hid H
    clear H HN
    unfold Plain
    go_enter Tryd.func18, Tryd.ntmps18
    go_wp2_with fail
    refine H1.out.mono ?_
    rintro e w1 ⟨rfl, rfl⟩
    go_wp2_with fail
    go_ret
    exact ⟨rfl, rfl⟩
  · have H := HN.out 7
    have H1 : Hid (Calls Tryd.prog 9 #[.int .i64 7] w fun e w' => e = .returned (.bool true) ∧ w = w') := Lib.hid H
    clear H HN
    unfold Plain
    have E := Lib.hid (zag_is (n % 4294967296) (by have := Hn.out; omega))
    have G := Lib.hid (refZag_any w (n % 4294967296) (by have := Hn.out; omega))
    change Calls _ _ _ _ fun e w' => e = .returned (.int .u64 (kzag (n % 4294967296) : Int)) ∧ w = w'
    generalize kzag (n % 4294967296) = m at *
    generalize zag (n % 4294967296) = y at *
    have hr : ((n % 4294967296 : Nat) : Int) = (n : Int) % 4294967296 := by omega
    have G2 := G.out
    rw [hr] at G2
    have G3 := Lib.hid G2
    clear H1 G2 hr
    go_enter Tryd.func18, Tryd.ntmps18
    go_wp2_with fail
    refine G3.out.mono ?_
    rintro e w1 ⟨rfl, rfl⟩
    go_wp2_with fail
    go_ret
    exact ⟨ret_u64 E.out, rfl⟩
  · have H := HN.out 8
    have H1 : Hid (Calls Tryd.prog 9 #[.int .i64 8] w fun e w' => e = .returned (.bool true) ∧ w = w') := Lib.hid H
    clear H HN
    unfold Plain
    have E := Lib.hid (zag_is n (by have := Hn.out; omega))
    have G := Lib.hid (refZag_any w n (by have := Hn.out; omega))
    change Calls _ _ _ _ fun e w' => e = .returned (.int .u64 (kzag n : Int)) ∧ w = w'
    generalize kzag n = m at *
    generalize zag n = y at *
    have G3 := G
    clear H1
    go_enter Tryd.func18, Tryd.ntmps18
    go_wp2_with fail
    refine G3.out.mono ?_
    rintro e w1 ⟨rfl, rfl⟩
    go_wp2_with fail
    go_ret
    exact ⟨ret_u64 E.out, rfl⟩
  · have H := HN.out 9
    have H1 : Hid (Calls Tryd.prog 9 #[.int .i64 9] w fun e w' => e = .returned (.bool true) ∧ w = w') := Lib.hid H
    clear H HN
    unfold Plain
    clear H1
    go_enter Tryd.func18, Tryd.ntmps18
    go_wp2_with fail
    go_ret
    exact ⟨rfl, rfl⟩
  · have H := HN.out 10
    have H1 : Hid (Calls Tryd.prog 9 #[.int .i64 10] w fun e w' => e = .returned (.bool true) ∧ w = w') := Lib.hid H
    clear H HN
    unfold Plain
    go_enter Tryd.func18, Tryd.ntmps18
    go_wp2_with fail
    refine H1.out.mono ?_
    rintro e w1 ⟨rfl, rfl⟩
    go_wp2_with fail
    go_ret
    exact ⟨rfl, rfl⟩
  · have H := HN.out 11
    have H1 : Hid (Calls Tryd.prog 9 #[.int .i64 11] w fun e w' => e = .returned (.bool true) ∧ w = w') := Lib.hid H
    clear H HN
    unfold Plain
    have G := Lib.hid (rSigned_any w n)
    unfold Plain at G
    change Calls _ _ _ _ fun e w' => e = .returned (.int .u64 (ksgn n : Int)) ∧ w = w'
    generalize ksgn n = m at *
    clear H1
    go_enter Tryd.func18, Tryd.ntmps18
    go_wp2_with fail
    refine G.out.mono ?_
    rintro e w1 ⟨rfl, rfl⟩
    go_wp2_with fail
    go_ret
    exact ⟨rfl, rfl⟩
  · have H := HN.out 12
    have H1 : Hid (Calls Tryd.prog 9 #[.int .i64 12] w fun e w' => e = .returned (.bool true) ∧ w = w') := Lib.hid H
    clear H HN
    unfold Plain
    go_enter Tryd.func18, Tryd.ntmps18
    go_wp2_with fail
    refine H1.out.mono ?_
    rintro e w1 ⟨rfl, rfl⟩
    go_wp2_with fail
    go_ret
    exact ⟨rfl, rfl⟩
  · have H := HN.out 13
    have H1 : Hid (Calls Tryd.prog 9 #[.int .i64 13] w fun e w' => e = .returned (.bool true) ∧ w = w') := Lib.hid H
    clear H HN
    unfold Plain
    clear H1
    change Calls _ _ _ _ fun e w' => e = .returned (.int .u64 ((if n = 0 then 0 else 1 : Nat) : Int)) ∧ w = w'
    by_cases h0 : n = 0
    · subst h0
      go_enter Tryd.func18, Tryd.ntmps18
      go_wp2_with fail
      go_ret
      exact ⟨rfl, rfl⟩
    · rw [if_neg h0]
      have h1 : (0 : Int) < (n : Int) := by omega
      go_enter Tryd.func18, Tryd.ntmps18
      go_wp2_with fail
      go_ret
      exact ⟨rfl, rfl⟩
  · have H := HN.out 14
    have H1 : Hid (Calls Tryd.prog 9 #[.int .i64 14] w fun e w' => e = .returned (.bool false) ∧ w = w') := Lib.hid H
    clear H HN
    unfold Plain
    go_enter Tryd.func18, Tryd.ntmps18
    go_wp2_with fail
    refine H1.out.mono ?_
    rintro e w1 ⟨rfl, rfl⟩
    go_wp2_with fail
    go_ret
    exact ⟨rfl, rfl⟩
  · have H := HN.out 15
    have H1 : Hid (Calls Tryd.prog 9 #[.int .i64 15] w fun e w' => e = .returned (.bool false) ∧ w = w') := Lib.hid H
    clear H HN
    unfold Plain
    go_enter Tryd.func18, Tryd.ntmps18
    go_wp2_with fail
    refine H1.out.mono ?_
    rintro e w1 ⟨rfl, rfl⟩
    go_wp2_with fail
    go_ret
    exact ⟨rfl, rfl⟩
  · have H := HN.out 16
    have H1 : Hid (Calls Tryd.prog 9 #[.int .i64 16] w fun e w' => e = .returned (.bool true) ∧ w = w') := Lib.hid H
    clear H HN
    unfold Plain
    have G := Lib.hid (rSigned_any w n)
    unfold Plain at G
    change Calls _ _ _ _ fun e w' => e = .returned (.int .u64 (ksgn n : Int)) ∧ w = w'
    generalize ksgn n = m at *
    clear H1
    go_enter Tryd.func18, Tryd.ntmps18
    go_wp2_with fail
    refine G.out.mono ?_
    rintro e w1 ⟨rfl, rfl⟩
    go_wp2_with fail
    go_ret
    exact ⟨rfl, rfl⟩
  · have H := HN.out 17
    have H1 : Hid (Calls Tryd.prog 9 #[.int .i64 17] w fun e w' => e = .returned (.bool false) ∧ w = w') := Lib.hid H
    clear H HN
    unfold Plain
    go_enter Tryd.func18, Tryd.ntmps18
    go_wp2_with fail
    refine H1.out.mono ?_
    rintro e w1 ⟨rfl, rfl⟩
    go_wp2_with fail
    go_ret
    exact ⟨rfl, rfl⟩
set_option maxRecDepth 100000 in
theorem rBack_any (w : World) (z : Int) (n : Nat) (hn : n < 18446744073709551616) : Plain 20 w #[.int .i64 z, .int .u64 (n : Int)] (.int .u64 (kback (kn z) n : Int)) := by
  have HN := Lib.hid (rNumber_any w)
  have Hn := Lib.hid hn
  clear hn
  refine kcases (P := fun z => Plain 20 w #[.int .i64 z, .int .u64 (n : Int)] (.int .u64 (kback (kn z) n : Int))) (fun z h => ?_) (fun z h => ?_) ?_ ?_ ?_ ?_ ?_ ?_ ?_ ?_ ?_ ?_ ?_ ?_ ?_ ?_ ?_ ?_ ?_ z
  · rw [(kright_num (kn z) n (by rw [kn_low z h]; rfl)).2.2]
    have H := HN.out z
    rw [kn_low z h] at H
    have H1 := Lib.hid H
    unfold Plain at H1 ⊢
    have a3 : ¬ z = 3 := by omega
    have a11 : ¬ z = 11 := by omega
    have a16 : ¬ z = 16 := by omega
    have a2 : ¬ z = 2 := by omega
    have a5 : ¬ z = 5 := by omega
    have a9 : ¬ z = 9 := by omega
    have a7 : ¬ z = 7 := by omega
    have a8 : ¬ z = 8 := by omega
    have a13 : ¬ z = 13 := by omega
    clear H h HN
    go_enter Tryd.func20, Tryd.ntmps20
    go_wp2_with fail
    refine H1.out.mono ?_
    rintro e w1 ⟨rfl, rfl⟩
    go_wp2_with fail
    go_ret
    exact ⟨rfl, rfl⟩
  · rw [(kright_num (kn z) n (by rw [kn_high z h]; rfl)).2.2]
    have H := HN.out z
    rw [kn_high z h] at H
    have H1 := Lib.hid H
    unfold Plain at H1 ⊢
    have a3 : ¬ z = 3 := by omega
    have a11 : ¬ z = 11 := by omega
    have a16 : ¬ z = 16 := by omega
    have a2 : ¬ z = 2 := by omega
    have a5 : ¬ z = 5 := by omega
    have a9 : ¬ z = 9 := by omega
    have a7 : ¬ z = 7 := by omega
    have a8 : ¬ z = 8 := by omega
    have a13 : ¬ z = 13 := by omega
    clear H h HN
    go_enter Tryd.func20, Tryd.ntmps20
    go_wp2_with fail
    refine H1.out.mono ?_
    rintro e w1 ⟨rfl, rfl⟩
    go_wp2_with fail
    go_ret
    exact ⟨rfl, rfl⟩
  · have H := HN.out 1
    have H1 : Hid (Calls Tryd.prog 9 #[.int .i64 1] w fun e w' => e = .returned (.bool true) ∧ w = w') := Lib.hid H
    clear H HN
    unfold Plain
    go_enter Tryd.func20, Tryd.ntmps20
    go_wp2_with fail
    refine H1.out.mono ?_
    rintro e w1 ⟨rfl, rfl⟩
    go_wp2_with fail
    go_ret
    exact ⟨rfl, rfl⟩
  · have H := HN.out 2
    have H1 : Hid (Calls Tryd.prog 9 #[.int .i64 2] w fun e w' => e = .returned (.bool true) ∧ w = w') := Lib.hid H
    clear H HN
    unfold Plain
    go_enter Tryd.func20, Tryd.ntmps20
    go_wp2_with fail
    refine H1.out.mono ?_
    rintro e w1 ⟨rfl, rfl⟩
    go_wp2_with fail
    go_ret
    exact ⟨rfl, rfl⟩
  · have H := HN.out 3
    have H1 : Hid (Calls Tryd.prog 9 #[.int .i64 3] w fun e w' => e = .returned (.bool true) ∧ w = w') := Lib.hid H
    clear H HN
    unfold Plain
    go_enter Tryd.func20, Tryd.ntmps20
    go_wp2_with fail
    refine H1.out.mono ?_
    rintro e w1 ⟨rfl, rfl⟩
    go_wp2_with fail
    go_ret
    exact ⟨rfl, rfl⟩
  · have H := HN.out 4
    have H1 : Hid (Calls Tryd.prog 9 #[.int .i64 4] w fun e w' => e = .returned (.bool true) ∧ w = w') := Lib.hid H
    clear H HN
    unfold Plain
    go_enter Tryd.func20, Tryd.ntmps20
    go_wp2_with fail
    refine H1.out.mono ?_
    rintro e w1 ⟨rfl, rfl⟩
    go_wp2_with fail
    go_ret
    exact ⟨rfl, rfl⟩
  · have H := HN.out 5
    have H1 : Hid (Calls Tryd.prog 9 #[.int .i64 5] w fun e w' => e = .returned (.bool true) ∧ w = w') := Lib.hid H
    clear H HN
    unfold Plain
    go_enter Tryd.func20, Tryd.ntmps20
    go_wp2_with fail
    refine H1.out.mono ?_
    rintro e w1 ⟨rfl, rfl⟩
    go_wp2_with fail
    go_ret
    exact ⟨rfl, rfl⟩
  · have H := HN.out 6
    have H1 : Hid (Calls Tryd.prog 9 #[.int .i64 6] w fun e w' => e = .returned (.bool true) ∧ w = w') := Lib.hid H
    clear H HN
    unfold Plain
    go_enter Tryd.func20, Tryd.ntmps20
    go_wp2_with fail
    refine H1.out.mono ?_
    rintro e w1 ⟨rfl, rfl⟩
    go_wp2_with fail
    go_ret
    exact ⟨rfl, rfl⟩
  · have H := HN.out 7
    have H1 : Hid (Calls Tryd.prog 9 #[.int .i64 7] w fun e w' => e = .returned (.bool true) ∧ w = w') := Lib.hid H
    clear H HN
    unfold Plain
    change Calls _ _ _ _ fun e w' => e = .returned (.int .u64 (kzig n : Int)) ∧ w = w'
    have hn := Hn.out
    by_cases h0 : n < 9223372036854775808
    · have E : Hid ((n : Int) * 2 = (kzig n : Int)) := Lib.hid (by unfold kzig; rw [if_pos h0]; omega)
      have hw1 : IntKind.u64.wrap ((n : Int) * 2) = (n : Int) * 2 := by rw [IntKind.wrap_u64]; omega
      have h0' : (n : Int) < 9223372036854775808 := by omega
      clear hn h0
      go_enter Tryd.func20, Tryd.ntmps20
      go_wp2_with fail
      refine H1.out.mono ?_
      rintro e w1 ⟨rfl, rfl⟩
      go_wp2_with fail
      go_ret
      exact ⟨ret_u64 E.out, rfl⟩
    · have E : Hid (IntKind.u64.wrap (IntKind.u64.wrap (IntKind.u64.wrap (18446744073709551615 - (n : Int)) * 2) + 1) = (kzig n : Int)) := Lib.hid (by rw [IntKind.wrap_u64, IntKind.wrap_u64, IntKind.wrap_u64]; unfold kzig; rw [if_neg h0]; omega)
      have h0' : decide ((n : Int) < 9223372036854775808) = false := decide_eq_false (by omega)
      clear hn h0
      go_enter Tryd.func20, Tryd.ntmps20
      go_wp2_with fail
      refine H1.out.mono ?_
      rintro e w1 ⟨rfl, rfl⟩
      go_wp2_with fail
      go_ret
      exact ⟨ret_u64 E.out, rfl⟩
  · have H := HN.out 8
    have H1 : Hid (Calls Tryd.prog 9 #[.int .i64 8] w fun e w' => e = .returned (.bool true) ∧ w = w') := Lib.hid H
    clear H HN
    unfold Plain
    change Calls _ _ _ _ fun e w' => e = .returned (.int .u64 (kzig n : Int)) ∧ w = w'
    have hn := Hn.out
    by_cases h0 : n < 9223372036854775808
    · have E : Hid ((n : Int) * 2 = (kzig n : Int)) := Lib.hid (by unfold kzig; rw [if_pos h0]; omega)
      have hw1 : IntKind.u64.wrap ((n : Int) * 2) = (n : Int) * 2 := by rw [IntKind.wrap_u64]; omega
      have h0' : (n : Int) < 9223372036854775808 := by omega
      clear hn h0
      go_enter Tryd.func20, Tryd.ntmps20
      go_wp2_with fail
      refine H1.out.mono ?_
      rintro e w1 ⟨rfl, rfl⟩
      go_wp2_with fail
      go_ret
      exact ⟨ret_u64 E.out, rfl⟩
    · have E : Hid (IntKind.u64.wrap (IntKind.u64.wrap (IntKind.u64.wrap (18446744073709551615 - (n : Int)) * 2) + 1) = (kzig n : Int)) := Lib.hid (by rw [IntKind.wrap_u64, IntKind.wrap_u64, IntKind.wrap_u64]; unfold kzig; rw [if_neg h0]; omega)
      have h0' : decide ((n : Int) < 9223372036854775808) = false := decide_eq_false (by omega)
      clear hn h0
      go_enter Tryd.func20, Tryd.ntmps20
      go_wp2_with fail
      refine H1.out.mono ?_
      rintro e w1 ⟨rfl, rfl⟩
      go_wp2_with fail
      go_ret
      exact ⟨ret_u64 E.out, rfl⟩
  · have H := HN.out 9
    have H1 : Hid (Calls Tryd.prog 9 #[.int .i64 9] w fun e w' => e = .returned (.bool true) ∧ w = w') := Lib.hid H
    clear H HN
    unfold Plain
    go_enter Tryd.func20, Tryd.ntmps20
    go_wp2_with fail
    refine H1.out.mono ?_
    rintro e w1 ⟨rfl, rfl⟩
    go_wp2_with fail
    go_ret
    exact ⟨rfl, rfl⟩
  · have H := HN.out 10
    have H1 : Hid (Calls Tryd.prog 9 #[.int .i64 10] w fun e w' => e = .returned (.bool true) ∧ w = w') := Lib.hid H
    clear H HN
    unfold Plain
    go_enter Tryd.func20, Tryd.ntmps20
    go_wp2_with fail
    refine H1.out.mono ?_
    rintro e w1 ⟨rfl, rfl⟩
    go_wp2_with fail
    go_ret
    exact ⟨rfl, rfl⟩
  · have H := HN.out 11
    have H1 : Hid (Calls Tryd.prog 9 #[.int .i64 11] w fun e w' => e = .returned (.bool true) ∧ w = w') := Lib.hid H
    clear H HN
    unfold Plain
    go_enter Tryd.func20, Tryd.ntmps20
    go_wp2_with fail
    refine H1.out.mono ?_
    rintro e w1 ⟨rfl, rfl⟩
    go_wp2_with fail
    go_ret
    exact ⟨rfl, rfl⟩
  · have H := HN.out 12
    have H1 : Hid (Calls Tryd.prog 9 #[.int .i64 12] w fun e w' => e = .returned (.bool true) ∧ w = w') := Lib.hid H
    clear H HN
    unfold Plain
    go_enter Tryd.func20, Tryd.ntmps20
    go_wp2_with fail
    refine H1.out.mono ?_
    rintro e w1 ⟨rfl, rfl⟩
    go_wp2_with fail
    go_ret
    exact ⟨rfl, rfl⟩
  · have H := HN.out 13
    have H1 : Hid (Calls Tryd.prog 9 #[.int .i64 13] w fun e w' => e = .returned (.bool true) ∧ w = w') := Lib.hid H
    clear H HN
    unfold Plain
    go_enter Tryd.func20, Tryd.ntmps20
    go_wp2_with fail
    refine H1.out.mono ?_
    rintro e w1 ⟨rfl, rfl⟩
    go_wp2_with fail
    go_ret
    exact ⟨rfl, rfl⟩
  · have H := HN.out 14
    have H1 : Hid (Calls Tryd.prog 9 #[.int .i64 14] w fun e w' => e = .returned (.bool false) ∧ w = w') := Lib.hid H
    clear H HN
    unfold Plain
    go_enter Tryd.func20, Tryd.ntmps20
    go_wp2_with fail
    refine H1.out.mono ?_
    rintro e w1 ⟨rfl, rfl⟩
    go_wp2_with fail
    go_ret
    exact ⟨rfl, rfl⟩
  · have H := HN.out 15
    have H1 : Hid (Calls Tryd.prog 9 #[.int .i64 15] w fun e w' => e = .returned (.bool false) ∧ w = w') := Lib.hid H
    clear H HN
    unfold Plain
    go_enter Tryd.func20, Tryd.ntmps20
    go_wp2_with fail
    refine H1.out.mono ?_
    rintro e w1 ⟨rfl, rfl⟩
    go_wp2_with fail
    go_ret
    exact ⟨rfl, rfl⟩
  · have H := HN.out 16
    have H1 : Hid (Calls Tryd.prog 9 #[.int .i64 16] w fun e w' => e = .returned (.bool true) ∧ w = w') := Lib.hid H
    clear H HN
    unfold Plain
    go_enter Tryd.func20, Tryd.ntmps20
    go_wp2_with fail
    refine H1.out.mono ?_
    rintro e w1 ⟨rfl, rfl⟩
    go_wp2_with fail
    go_ret
    exact ⟨rfl, rfl⟩
  · have H := HN.out 17
    have H1 : Hid (Calls Tryd.prog 9 #[.int .i64 17] w fun e w' => e = .returned (.bool false) ∧ w = w') := Lib.hid H
    clear H HN
    unfold Plain
    go_enter Tryd.func20, Tryd.ntmps20
    go_wp2_with fail
    refine H1.out.mono ?_
    rintro e w1 ⟨rfl, rfl⟩
    go_wp2_with fail
    go_ret
    exact ⟨rfl, rfl⟩
set_option maxRecDepth 100000 in
theorem rRight_any (w : World) (z : Int) (n : Nat) (hn : n < 18446744073709551616) : Plain 22 w #[.int .i64 z, .int .u64 (n : Int)] (.bool (krightB (kn z) n)) := by
  have HN := Lib.hid (rNumber_any w)
  have Hn := Lib.hid hn
  clear hn
  refine kcases (P := fun z => Plain 22 w #[.int .i64 z, .int .u64 (n : Int)] (.bool (krightB (kn z) n))) (fun z h => ?_) (fun z h => ?_) ?_ ?_ ?_ ?_ ?_ ?_ ?_ ?_ ?_ ?_ ?_ ?_ ?_ ?_ ?_ ?_ ?_ z
  · rw [(kright_num (kn z) n (by rw [kn_low z h]; rfl)).1]
    have H := HN.out z
    rw [kn_low z h] at H
    have H1 := Lib.hid H
    unfold Plain at H1 ⊢
    have a3 : ¬ z = 3 := by omega
    have a11 : ¬ z = 11 := by omega
    have a16 : ¬ z = 16 := by omega
    have a2 : ¬ z = 2 := by omega
    have a5 : ¬ z = 5 := by omega
    have a9 : ¬ z = 9 := by omega
    have a7 : ¬ z = 7 := by omega
    have a8 : ¬ z = 8 := by omega
    have a13 : ¬ z = 13 := by omega
    clear H h HN
    go_enter Tryd.func22, Tryd.ntmps22
    go_wp2_with fail
    refine H1.out.mono ?_
    rintro e w1 ⟨rfl, rfl⟩
    go_wp2_with fail
    go_ret
    exact ⟨rfl, rfl⟩
  · rw [(kright_num (kn z) n (by rw [kn_high z h]; rfl)).1]
    have H := HN.out z
    rw [kn_high z h] at H
    have H1 := Lib.hid H
    unfold Plain at H1 ⊢
    have a3 : ¬ z = 3 := by omega
    have a11 : ¬ z = 11 := by omega
    have a16 : ¬ z = 16 := by omega
    have a2 : ¬ z = 2 := by omega
    have a5 : ¬ z = 5 := by omega
    have a9 : ¬ z = 9 := by omega
    have a7 : ¬ z = 7 := by omega
    have a8 : ¬ z = 8 := by omega
    have a13 : ¬ z = 13 := by omega
    clear H h HN
    go_enter Tryd.func22, Tryd.ntmps22
    go_wp2_with fail
    refine H1.out.mono ?_
    rintro e w1 ⟨rfl, rfl⟩
    go_wp2_with fail
    go_ret
    exact ⟨rfl, rfl⟩
  · have H := HN.out 1
    have H1 : Hid (Calls Tryd.prog 9 #[.int .i64 1] w fun e w' => e = .returned (.bool true) ∧ w = w') := Lib.hid H
    clear H HN
    unfold Plain
    go_enter Tryd.func22, Tryd.ntmps22
    go_wp2_with fail
    refine H1.out.mono ?_
    rintro e w1 ⟨rfl, rfl⟩
    go_wp2_with fail
    go_ret
    exact ⟨rfl, rfl⟩
  · have H := HN.out 2
    have H1 : Hid (Calls Tryd.prog 9 #[.int .i64 2] w fun e w' => e = .returned (.bool true) ∧ w = w') := Lib.hid H
    clear H HN
    unfold Plain
    change Calls _ _ _ _ fun e w' => e = .returned (.bool (decide (n < 4294967296))) ∧ w = w'
    clear H1
    by_cases h0 : n < 4294967296
    · rw [decide_eq_true h0]
      have h0' : (n : Int) < 4294967296 := by omega
      go_enter Tryd.func22, Tryd.ntmps22
      go_wp2_with fail
      go_ret
      exact ⟨rfl, rfl⟩
    · rw [decide_eq_false h0]
      have h0' : ¬ (n : Int) < 4294967296 := by omega
      go_enter Tryd.func22, Tryd.ntmps22
      go_wp2_with fail
      go_ret
      exact ⟨rfl, rfl⟩
  · have H := HN.out 3
    have H1 : Hid (Calls Tryd.prog 9 #[.int .i64 3] w fun e w' => e = .returned (.bool true) ∧ w = w') := Lib.hid H
    clear H HN
    unfold Plain
    have G := Lib.hid (rSigned_any w n)
    unfold Plain at G
    change Calls _ _ _ _ fun e w' => e = .returned (.bool (decide (ksgn n = n))) ∧ w = w'
    generalize ksgn n = m at *
    clear H1
    go_enter Tryd.func22, Tryd.ntmps22
    go_wp2_with fail
    refine G.out.mono ?_
    rintro e w1 ⟨rfl, rfl⟩
    go_wp2_with fail
    go_ret
    exact ⟨congrArg Ending.returned (congrArg Value.bool (beq_nat m n)), rfl⟩
  · have H := HN.out 4
    have H1 : Hid (Calls Tryd.prog 9 #[.int .i64 4] w fun e w' => e = .returned (.bool true) ∧ w = w') := Lib.hid H
    clear H HN
    unfold Plain
    go_enter Tryd.func22, Tryd.ntmps22
    go_wp2_with fail
    refine H1.out.mono ?_
    rintro e w1 ⟨rfl, rfl⟩
    go_wp2_with fail
    go_ret
    exact ⟨rfl, rfl⟩
  · have H := HN.out 5
    have H1 : Hid (Calls Tryd.prog 9 #[.int .i64 5] w fun e w' => e = .returned (.bool true) ∧ w = w') := Lib.hid H
    clear H HN
    unfold Plain
    change Calls _ _ _ _ fun e w' => e = .returned (.bool (decide (n < 4294967296))) ∧ w = w'
    clear H1
    by_cases h0 : n < 4294967296
    · rw [decide_eq_true h0]
      have h0' : (n : Int) < 4294967296 := by omega
      go_enter Tryd.func22, Tryd.ntmps22
      go_wp2_with fail
      go_ret
      exact ⟨rfl, rfl⟩
    · rw [decide_eq_false h0]
      have h0' : ¬ (n : Int) < 4294967296 := by omega
      go_enter Tryd.func22, Tryd.ntmps22
      go_wp2_with fail
      go_ret
      exact ⟨rfl, rfl⟩
  · have H := HN.out 6
    have H1 : Hid (Calls Tryd.prog 9 #[.int .i64 6] w fun e w' => e = .returned (.bool true) ∧ w = w') := Lib.hid H
    clear H HN
    unfold Plain
    go_enter Tryd.func22, Tryd.ntmps22
    go_wp2_with fail
    refine H1.out.mono ?_
    rintro e w1 ⟨rfl, rfl⟩
    go_wp2_with fail
    go_ret
    exact ⟨rfl, rfl⟩
  · have H := HN.out 7
    have H1 : Hid (Calls Tryd.prog 9 #[.int .i64 7] w fun e w' => e = .returned (.bool true) ∧ w = w') := Lib.hid H
    clear H HN
    unfold Plain
    have G := Lib.hid (rSigned_any w n)
    unfold Plain at G
    change Calls _ _ _ _ fun e w' => e = .returned (.bool (decide (ksgn n = n))) ∧ w = w'
    generalize ksgn n = m at *
    clear H1
    go_enter Tryd.func22, Tryd.ntmps22
    go_wp2_with fail
    refine G.out.mono ?_
    rintro e w1 ⟨rfl, rfl⟩
    go_wp2_with fail
    go_ret
    exact ⟨congrArg Ending.returned (congrArg Value.bool (beq_nat m n)), rfl⟩
  · have H := HN.out 8
    have H1 : Hid (Calls Tryd.prog 9 #[.int .i64 8] w fun e w' => e = .returned (.bool true) ∧ w = w') := Lib.hid H
    clear H HN
    unfold Plain
    go_enter Tryd.func22, Tryd.ntmps22
    go_wp2_with fail
    refine H1.out.mono ?_
    rintro e w1 ⟨rfl, rfl⟩
    go_wp2_with fail
    go_ret
    exact ⟨rfl, rfl⟩
  · have H := HN.out 9
    have H1 : Hid (Calls Tryd.prog 9 #[.int .i64 9] w fun e w' => e = .returned (.bool true) ∧ w = w') := Lib.hid H
    clear H HN
    unfold Plain
    change Calls _ _ _ _ fun e w' => e = .returned (.bool (decide (n < 4294967296))) ∧ w = w'
    clear H1
    by_cases h0 : n < 4294967296
    · rw [decide_eq_true h0]
      have h0' : (n : Int) < 4294967296 := by omega
      go_enter Tryd.func22, Tryd.ntmps22
      go_wp2_with fail
      go_ret
      exact ⟨rfl, rfl⟩
    · rw [decide_eq_false h0]
      have h0' : ¬ (n : Int) < 4294967296 := by omega
      go_enter Tryd.func22, Tryd.ntmps22
      go_wp2_with fail
      go_ret
      exact ⟨rfl, rfl⟩
  · have H := HN.out 10
    have H1 : Hid (Calls Tryd.prog 9 #[.int .i64 10] w fun e w' => e = .returned (.bool true) ∧ w = w') := Lib.hid H
    clear H HN
    unfold Plain
    go_enter Tryd.func22, Tryd.ntmps22
    go_wp2_with fail
    refine H1.out.mono ?_
    rintro e w1 ⟨rfl, rfl⟩
    go_wp2_with fail
    go_ret
    exact ⟨rfl, rfl⟩
  · have H := HN.out 11
    have H1 : Hid (Calls Tryd.prog 9 #[.int .i64 11] w fun e w' => e = .returned (.bool true) ∧ w = w') := Lib.hid H
    clear H HN
    unfold Plain
    have G := Lib.hid (rSigned_any w n)
    unfold Plain at G
    change Calls _ _ _ _ fun e w' => e = .returned (.bool (decide (ksgn n = n))) ∧ w = w'
    generalize ksgn n = m at *
    clear H1
    go_enter Tryd.func22, Tryd.ntmps22
    go_wp2_with fail
    refine G.out.mono ?_
    rintro e w1 ⟨rfl, rfl⟩
    go_wp2_with fail
    go_ret
    exact ⟨congrArg Ending.returned (congrArg Value.bool (beq_nat m n)), rfl⟩
  · have H := HN.out 12
    have H1 : Hid (Calls Tryd.prog 9 #[.int .i64 12] w fun e w' => e = .returned (.bool true) ∧ w = w') := Lib.hid H
    clear H HN
    unfold Plain
    go_enter Tryd.func22, Tryd.ntmps22
    go_wp2_with fail
    refine H1.out.mono ?_
    rintro e w1 ⟨rfl, rfl⟩
    go_wp2_with fail
    go_ret
    exact ⟨rfl, rfl⟩
  · have H := HN.out 13
    have H1 : Hid (Calls Tryd.prog 9 #[.int .i64 13] w fun e w' => e = .returned (.bool true) ∧ w = w') := Lib.hid H
    clear H HN
    unfold Plain
    change Calls _ _ _ _ fun e w' => e = .returned (.bool (decide (n < 2))) ∧ w = w'
    clear H1
    by_cases h0 : n < 2
    · rw [decide_eq_true h0]
      have h0' : (n : Int) < 2 := by omega
      go_enter Tryd.func22, Tryd.ntmps22
      go_wp2_with fail
      go_ret
      exact ⟨rfl, rfl⟩
    · rw [decide_eq_false h0]
      have h0' : ¬ (n : Int) < 2 := by omega
      go_enter Tryd.func22, Tryd.ntmps22
      go_wp2_with fail
      go_ret
      exact ⟨rfl, rfl⟩
  · have H := HN.out 14
    have H1 : Hid (Calls Tryd.prog 9 #[.int .i64 14] w fun e w' => e = .returned (.bool false) ∧ w = w') := Lib.hid H
    clear H HN
    unfold Plain
    go_enter Tryd.func22, Tryd.ntmps22
    go_wp2_with fail
    refine H1.out.mono ?_
    rintro e w1 ⟨rfl, rfl⟩
    go_wp2_with fail
    go_ret
    exact ⟨rfl, rfl⟩
  · have H := HN.out 15
    have H1 : Hid (Calls Tryd.prog 9 #[.int .i64 15] w fun e w' => e = .returned (.bool false) ∧ w = w') := Lib.hid H
    clear H HN
    unfold Plain
    go_enter Tryd.func22, Tryd.ntmps22
    go_wp2_with fail
    refine H1.out.mono ?_
    rintro e w1 ⟨rfl, rfl⟩
    go_wp2_with fail
    go_ret
    exact ⟨rfl, rfl⟩
  · have H := HN.out 16
    have H1 : Hid (Calls Tryd.prog 9 #[.int .i64 16] w fun e w' => e = .returned (.bool true) ∧ w = w') := Lib.hid H
    clear H HN
    unfold Plain
    have G := Lib.hid (rSigned_any w n)
    unfold Plain at G
    change Calls _ _ _ _ fun e w' => e = .returned (.bool (decide (ksgn n = n))) ∧ w = w'
    generalize ksgn n = m at *
    clear H1
    go_enter Tryd.func22, Tryd.ntmps22
    go_wp2_with fail
    refine G.out.mono ?_
    rintro e w1 ⟨rfl, rfl⟩
    go_wp2_with fail
    go_ret
    exact ⟨congrArg Ending.returned (congrArg Value.bool (beq_nat m n)), rfl⟩
  · have H := HN.out 17
    have H1 : Hid (Calls Tryd.prog 9 #[.int .i64 17] w fun e w' => e = .returned (.bool false) ∧ w = w') := Lib.hid H
    clear H HN
    unfold Plain
    go_enter Tryd.func22, Tryd.ntmps22
    go_wp2_with fail
    refine H1.out.mono ?_
    rintro e w1 ⟨rfl, rfl⟩
    go_wp2_with fail
    go_ret
    exact ⟨rfl, rfl⟩
end Go.Proofs.YtnokjainniihkaaDoor
