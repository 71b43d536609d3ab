/- The walk of OctetsOrder: for all bytes that lie in memory the answer is true, and nothing that was there turns. No condition. -/
import Derived.Test.YtpimoipjomikiaaDoorProg
import Derived.Test.YtpimoipjomikiaaDoorMem
import Derived.Test.YtpimoipjomikiaaDoorBytes
import Derived.Test.YtpimoipjomikiaaDoorKept
import Derived.Test.YtpimoipjomikiaaDoorJoin
import Derived.Test.YtpimoipjomikiaaDoorStr
import Derived.Test.YtpimoipjomikiaaDoorCompare
import Derived.Test.YtpimoipjomikiaaDoorAlive
import Derived.Test.YtpimoipjomikiaaDoorGrow
namespace Go.Proofs.YtpimoipjomikiaaDoor
open Go.RowKit

theorem bytes_sl {w : World} {g : Nat} {t : TypeId} {l : List UInt8} {rest : List Value} (h : Blk w g t (l.map bv ++ rest)) : Sl w (g + 1) (some ⟨g, 0, none⟩) l :=
  Sl.of_blk h (by omega) fun i x hx => by
    have hi : i < l.length := by
      rcases Nat.lt_or_ge i l.length with h | h
      · exact h
      · rw [List.getElem?_eq_none h] at hx; cases hx
    rw [List.getElem?_append_left (by simpa using hi), List.getElem?_map, hx]
    rfl

set_option maxRecDepth 100000 in
set_option maxHeartbeats 1000000 in
theorem order_in (w : World) (p q r : Option Addr) (l m n : List UInt8) (c d f B : Nat) (hB : B ≤ w.heap.size) (h1 : Sl w B p l) (h2 : Sl w B q m) (h3 : Sl w B r n)
    (hl : l.length ≤ 300) (hm : m.length ≤ 300) (hn : n.length ≤ 300) (K : Int) (E : Bool) (HK : Hid (cmp l m = K)) (HE : Hid ((l == m) = E)) (hKE : (K = -1 ∧ E = false) ∨ (K = 0 ∧ E = true) ∨ (K = 1 ∧ E = false)) :
    Calls Tryd.prog 5 #[.slice p l.length c, .slice q m.length d, .slice r n.length f] w fun e w' => e = .returned (.bool true) ∧ Below w.heap.size w w' := by
  have hl' : ¬ 300 < l.length := by omega
  have hm' : ¬ 300 < m.length := by omega
  have hn' : ¬ 300 < n.length := by omega
  go_enter Tryd.func5, Tryd.ntmps5
  go_wp2_with fail
  refine (alive_any w).mono ?_
  rintro e w1 ⟨rfl, hb1⟩
  have a1 := h1.below (hb1.mono hB)
  go_wp2_with fail
  refine (bytes_any w1 p l c B (by omega) a1 (Nat.le_trans hB hb1.size)).mono ?_
  rintro e w2 ⟨rfl, hin, hb2⟩
  have hsin := bytes_sl hin
  have hlt2 := hin.lt
  have hb12 := hb1.trans (hb2.mono hb1.size)
  have a2 := h1.below (hb12.mono hB)
  have b2 := h2.below (hb12.mono hB)
  have c2 := h3.below (hb12.mono hB)
  have hB2 : B ≤ w2.heap.size := Nat.le_trans hB hb12.size
  go_wp2_with fail
  have hp : Parts (w2.alloc (Obj.cells #[Value.slice (some ⟨w1.heap.size, 0, none⟩) l.length (l.length + 6), Value.slice q m.length d, Value.slice r n.length f] 22)) (w2.heap.size + 1) (some ⟨w2.heap.size, 0, none⟩)
      [⟨some ⟨w1.heap.size, 0, none⟩, l, l.length + 6⟩, ⟨q, m, d⟩, ⟨r, n, f⟩] :=
    Parts.made (u := w2) (B := w2.heap.size) (t := 22) (xs := [⟨some ⟨w1.heap.size, 0, none⟩, l, l.length + 6⟩, ⟨q, m, d⟩, ⟨r, n, f⟩]) rfl (by
      intro x hx
      simp only [List.mem_cons, List.not_mem_nil, or_false] at hx
      rcases hx with rfl | rfl | rfl
      · exact hsin.more hlt2
      · exact b2.more hB2
      · exact c2.more hB2) (Nat.le_refl _)
  refine (join_any _ _ [⟨some ⟨w1.heap.size, 0, none⟩, l, l.length + 6⟩, ⟨q, m, d⟩, ⟨r, n, f⟩] 3 (w2.heap.size + 1) (by simp) hp (by simp) (by simp [flat]; omega)).mono ?_
  rintro e w3 ⟨v3, rfl, hown3, hb3'⟩
  have hb3 : Below w2.heap.size w2 w3 := ((Below.refl _ _).alloc (Nat.le_refl _) _).trans (hb3'.mono (by simp))
  have hfl : flat [⟨some ⟨w1.heap.size, 0, none⟩, l, l.length + 6⟩, ⟨q, m, d⟩, ⟨r, n, f⟩] = l ++ m ++ n := by simp [flat]
  rw [hfl] at hown3
  obtain ⟨X, hX⟩ : ∃ X, X = l ++ m ++ n := ⟨_, rfl⟩
  rw [← hX] at hown3
  have HX := Lib.hid hX
  clear hX
  obtain ⟨q3, c3, rfl, hx3, _, _⟩ := own_sl hown3
  have hb13 := hb12.trans (hb3.mono hb12.size)
  have a3 := h1.below (hb13.mono hB)
  have b3 := h2.below (hb13.mono hB)
  have d3 := h3.below (hb13.mono hB)
  have hin3 := hin.kept hb3
  have e1 := hx3.string c3
  have e2 := a3.string c
  have e3 := b3.string d
  have e4 := d3.string f
  clear hown3 hp hfl hin hsin hb3'
  have z1 : (str l).size ≤ 300 := by rw [strSize]; exact hl
  have z2 : (str m).size ≤ 300 := by rw [strSize]; exact hm
  have z3 : (str n).size ≤ 300 := by rw [strSize]; exact hn
  have z4 : (str (l ++ m)).size ≤ 600 := by rw [strSize, List.length_append]; omega
  have s1 := str_append l m
  have s2 : str (l ++ m) ++ str n = str X := by rw [str_append, HX.out]
  go_wp2_with fail
  refine (join_any w3 none [] 0 0 (Nat.zero_le _) ⟨fun h => absurd h (by simp), fun x hx => by cases hx⟩ (by simp) (by simp [flat])).mono ?_
  rintro e w4 ⟨v4, rfl, hown4, hb4⟩
  have hf0 : flat [] = [] := rfl
  rw [hf0] at hown4
  obtain ⟨q4, c4, rfl, _, _, _⟩ := own_sl hown4
  clear hown4 hf0 e1 e2 e3 e4
  have hb14 := hb13.trans (hb4.mono hb13.size)
  have a4 := h1.below (hb14.mono hB)
  have b4 := h2.below (hb14.mono hB)
  have hin4 := hin3.kept hb4
  go_wp2_with fail
  refine (kept_any w4 w1.heap.size p l c B (by omega) a4 hin4).mono ?_
  rintro e w5 ⟨rfl, rfl⟩
  go_wp2_with fail
  refine (refCompare_any w4 p q l m c d B (by omega) a4 b4).mono ?_
  rintro e w6 ⟨he, n6, rfl⟩
  rw [HK.out] at he
  subst he
  generalize hw5 : w4.drewN n6 = w5
  have a5 : Sl w5 B p l := by rw [← hw5]; exact a4
  have b5 : Sl w5 B q m := by rw [← hw5]; exact b4
  have hb15 : Below w.heap.size w w5 := by rw [← hw5]; exact below_drewN hb14 _
  clear hw5 a4 b4 hin4 hb14
  have hB5 : B ≤ w5.heap.size := Nat.le_trans hB hb15.size
  have HK' : Hid (cmp m l = -K) := Lib.hid (by rw [cmp_swap, HK.out])
  have HE' : Hid (((str l).toList == (str m).toList) = E) := Lib.hid (by rw [str_toList, str_toList]; exact HE.out)
  go_wp2_with fail
  have hneg : IntKind.i64.wrap (-K) = -K := IntWalk.i64_in _ (by omega)
  have hE0 : (E == (K == 0)) = true := by rcases hKE with ⟨rfl, rfl⟩ | ⟨rfl, rfl⟩ | ⟨rfl, rfl⟩ <;> rfl
  have hE1 : (E == ((str l).toList == (str m).toList)) = true := by rw [HE'.out]; simp
  refine wp_region_grow (Below w5.heap.size w5) (fun u u' => Below u.heap.size u u') (Kind.is ?_ :: Kind.is ?_ :: Kind.is (.int .i64 K) :: Kind.is ?_ :: Kind.is ?_ :: Kind.is ?_ :: Kind.is ?_ :: Kind.is ?_ :: Kind.is (.int .i64 (-K)) :: Kind.is ?_ :: Kind.is ?_ :: Kind.is ?_ :: Kind.is ?_ :: Kind.is ?_ :: Kind.is ?_ :: Kind.is ?_ :: Kind.is (.bool E) :: Kind.is ?_ :: Kind.is ?_ :: Kind.is ?_ :: Kind.is ?_ :: Kind.is ?_ :: Kind.is ?_ :: Kind.is ?_ :: Kind.is (.bool E) :: Kind.is ?_ :: Kind.is ?_ :: Kind.is ?_ :: Kind.is ?_ :: Kind.is ?_ :: Kind.is ?_ :: Kind.is ?_ :: Kind.is ?_ :: []) (by kernel_rfl) (by kernel_rfl) (fun u u' h hC => hC.trans (h.mono hC.size)) (by repeat (first | exact trivial | refine ⟨stay_is, ?_⟩)) ((Below.refl _ _).drew) ?h
  case h =>
    iterate 2 (refine wpT_is (fun _ => Below.refl _ _) rfl (fun wx hC _ => by go_simp; rfl) ?_; simp only [Act.put, List.setIfInBounds_toArray, List.set_cons_zero, List.set_cons_succ])
    refine wpT_callIs rfl (fun wx hC _ => by go_simp; exact ⟨rfl, rfl⟩) (fun wx hC _ => ?k1) ?_
    case k1 => exact (compare_any wx p q l m c d B (a5.below (hC.mono hB5)) (b5.below (hC.mono hB5))).mono fun e w' ⟨he, hw⟩ => ⟨by rw [← HK.out]; exact he, hw ▸ Below.refl _ _⟩
    simp only [Act.put, List.setIfInBounds_toArray, List.set_cons_zero, List.set_cons_succ]
    iterate 5 (refine wpT_is (fun _ => Below.refl _ _) rfl (fun wx hC _ => by go_simp; rfl) ?_; simp only [Act.put, List.setIfInBounds_toArray, List.set_cons_zero, List.set_cons_succ])
    refine wpT_callIs rfl (fun wx hC _ => by go_simp; exact ⟨rfl, rfl⟩) (fun wx hC _ => ?k2) ?_
    case k2 => exact (compare_any wx q p m l d c B (b5.below (hC.mono hB5)) (a5.below (hC.mono hB5))).mono fun e w' ⟨he, hw⟩ => ⟨by rw [← HK'.out]; exact he, hw ▸ Below.refl _ _⟩
    simp only [Act.put, List.setIfInBounds_toArray, List.set_cons_zero, List.set_cons_succ]
    iterate 7 (refine wpT_is (fun _ => Below.refl _ _) rfl (fun wx hC _ => by go_simp; rfl) ?_; simp only [Act.put, List.setIfInBounds_toArray, List.set_cons_zero, List.set_cons_succ])
    refine wpT_callIs rfl (fun wx hC _ => by go_simp; exact ⟨rfl, rfl⟩) (fun wx hC _ => ?k3) ?_
    case k3 => exact (equal_any wx p q l m c d B (a5.below (hC.mono hB5)) (b5.below (hC.mono hB5))).mono fun e w' ⟨he, hw⟩ => ⟨by rw [← HE.out]; exact he, hw ▸ Below.refl _ _⟩
    simp only [Act.put, List.setIfInBounds_toArray, List.set_cons_zero, List.set_cons_succ]
    iterate 7 (refine wpT_is (fun _ => Below.refl _ _) rfl (fun wx hC _ => by go_simp; rfl) ?_; simp only [Act.put, List.setIfInBounds_toArray, List.set_cons_zero, List.set_cons_succ])
    refine wpT_callIs rfl (fun wx hC _ => by go_simp; exact ⟨rfl, rfl⟩) (fun wx hC _ => ?k4) ?_
    case k4 => exact (equal_any wx p q l m c d B (a5.below (hC.mono hB5)) (b5.below (hC.mono hB5))).mono fun e w' ⟨he, hw⟩ => ⟨by rw [← HE.out]; exact he, hw ▸ Below.refl _ _⟩
    simp only [Act.put, List.setIfInBounds_toArray, List.set_cons_zero, List.set_cons_succ]
    iterate 1 (refine wpT_is (fun _ => Below.refl _ _) rfl (fun wx hC _ => by go_simp; rfl) ?_; simp only [Act.put, List.setIfInBounds_toArray, List.set_cons_zero, List.set_cons_succ])
    refine wpT_is (fun _ => Below.refl _ _) rfl (fun wx hC _ => by have ex := (a5.below (hC.mono hB5)).string c; go_simp; rfl) ?_
    simp only [Act.put, List.setIfInBounds_toArray, List.set_cons_zero, List.set_cons_succ]
    iterate 1 (refine wpT_is (fun _ => Below.refl _ _) rfl (fun wx hC _ => by go_simp; rfl) ?_; simp only [Act.put, List.setIfInBounds_toArray, List.set_cons_zero, List.set_cons_succ])
    refine wpT_is (fun _ => Below.refl _ _) rfl (fun wx hC _ => by have ex := (b5.below (hC.mono hB5)).string d; go_simp; rfl) ?_
    simp only [Act.put, List.setIfInBounds_toArray, List.set_cons_zero, List.set_cons_succ]
    iterate 4 (refine wpT_is (fun _ => Below.refl _ _) rfl (fun wx hC _ => by go_simp; rfl) ?_; simp only [Act.put, List.setIfInBounds_toArray, List.set_cons_zero, List.set_cons_succ])
    refine wpT_nil fun wx hC _ => ?_
    go_wp2_with fail
    go_ret
    exact ⟨rfl, hb15.trans (hC.mono hb15.size)⟩

theorem order_out (w : World) (p q r : Option Addr) (l m n : List UInt8) (c d f : Nat) (h : 300 < l.length ∨ l.length ≤ 300 ∧ 300 < m.length ∨ l.length ≤ 300 ∧ m.length ≤ 300 ∧ 300 < n.length) :
    Calls Tryd.prog 5 #[.slice p l.length c, .slice q m.length d, .slice r n.length f] w fun e w' => e = .returned (.bool true) ∧ Below w.heap.size w w' := by
  rcases h with h | ⟨h1, h⟩ | ⟨h1, h2, h⟩
  · go_enter Tryd.func5, Tryd.ntmps5
    go_wp2_with fail
    refine (alive_any w).mono ?_
    rintro e w1 ⟨rfl, hb1⟩
    go_wp2_with fail
    go_ret
    exact ⟨rfl, hb1⟩
  · have h1' : ¬ 300 < l.length := by omega
    go_enter Tryd.func5, Tryd.ntmps5
    go_wp2_with fail
    refine (alive_any w).mono ?_
    rintro e w1 ⟨rfl, hb1⟩
    go_wp2_with fail
    go_ret
    exact ⟨rfl, hb1⟩
  · have h1' : ¬ 300 < l.length := by omega
    have h2' : ¬ 300 < m.length := by omega
    go_enter Tryd.func5, Tryd.ntmps5
    go_wp2_with fail
    refine (alive_any w).mono ?_
    rintro e w1 ⟨rfl, hb1⟩
    go_wp2_with fail
    go_ret
    exact ⟨rfl, hb1⟩

theorem order_any (w : World) (p q r : Option Addr) (l m n : List UInt8) (c d f B : Nat) (hB : B ≤ w.heap.size) (h1 : Sl w B p l) (h2 : Sl w B q m) (h3 : Sl w B r n) :
    Calls Tryd.prog 5 #[.slice p l.length c, .slice q m.length d, .slice r n.length f] w fun e w' => e = .returned (.bool true) ∧ Below w.heap.size w w' := by
  by_cases hl : l.length ≤ 300
  · by_cases hm : m.length ≤ 300
    · by_cases hn : n.length ≤ 300
      · have hz := cmp_zero l m
        rcases cmp_range l m with hK | hK | hK
        · have hne : (l == m) = false := by rw [beq_eq_false_iff_ne]; intro e; rw [hz.2 e] at hK; omega
          exact order_in w p q r l m n c d f B hB h1 h2 h3 hl hm hn (-1) false (Lib.hid hK) (Lib.hid hne) (.inl ⟨rfl, rfl⟩)
        · have he : (l == m) = true := by rw [beq_iff_eq]; exact hz.1 hK
          exact order_in w p q r l m n c d f B hB h1 h2 h3 hl hm hn 0 true (Lib.hid hK) (Lib.hid he) (.inr (.inl ⟨rfl, rfl⟩))
        · have hne : (l == m) = false := by rw [beq_eq_false_iff_ne]; intro e; rw [hz.2 e] at hK; omega
          exact order_in w p q r l m n c d f B hB h1 h2 h3 hl hm hn 1 false (Lib.hid hK) (Lib.hid hne) (.inr (.inr ⟨rfl, rfl⟩))
      · exact order_out w p q r l m n c d f (.inr (.inr ⟨hl, hm, by omega⟩))
    · exact order_out w p q r l m n c d f (.inr (.inl ⟨hl, by omega⟩))
  · exact order_out w p q r l m n c d f (.inl (by omega))
end Go.Proofs.YtpimoipjomikiaaDoor
