/- The walk of VarintRows: for every list of numbers the answer is true, and nothing that was there turns. No condition. -/
import Derived.Test.YtephohilhnieoaaDoorProg
import Derived.Test.YtephohilhnieoaaDoorMem
import Derived.Test.YtephohilhnieoaaDoorRow
import Derived.Test.YtephohilhnieoaaDoorVput
import Derived.Test.YtephohilhnieoaaDoorVsize
import Derived.Test.YtephohilhnieoaaDoorVall
import Derived.Test.YtephohilhnieoaaDoorAlive02
namespace Go.Proofs.YtephohilhnieoaaDoor
open Go.RowKit

set_option maxRecDepth 100000 in
set_option maxHeartbeats 1000000 in
theorem vrows_any (w : World) (p : Option Addr) (ns : List Nat) (c : Nat) (hn : ∀ n ∈ ns, n < 18446744073709551616) (hs : Rw w w.heap.size p (ns.map uv)) :
    Calls Tryd.prog 5 #[.slice p ns.length c] w fun e w' => e = .returned (.bool true) ∧ Below w.heap.size w w' := by
  by_cases h60 : ns.length ≤ 60
  · have h60' : ¬ 60 < ns.length := by omega
    have HA := Lib.hid (vall_vputs ns hn)
    have hlen := vputs_length ns hn
    go_enter Tryd.func5, Tryd.ntmps5
    go_wp2_with fail
    refine (alive02_any w).mono ?_
    rintro e w1 ⟨rfl, hb1⟩
    have hs1 := hs.below hb1
    go_wp2_with fail
    refine (vPutAll_any w1 p ns c w.heap.size hb1.size (by omega) hn hs1).mono ?_
    rintro e w2 ⟨v, rfl, hown, hb2⟩
    obtain ⟨q, cq, rfl, hsl, hcq, hcm⟩ := own_sl hown
    clear hown
    have hb02 := hb1.trans (hb2.mono hb1.size)
    have hs2 := hs.below hb02
    go_wp2_with fail
    go_loop [18, 4] (fun i s => ∃ k : Nat, k ≤ ns.length ∧ i = .int .i64 k ∧ s = .int .i64 ((vputs (ns.take k)).length : Int)) (fun i _ => ns.length - (intOf i).toNat)
    case atStart => exact ⟨0, by omega, rfl, rfl⟩
    case round =>
      obtain ⟨k, hk, rfl, rfl⟩ := hrel
      have hlk := vputs_length (ns.take k) (fun m hm => hn m (List.mem_of_mem_take hm))
      rw [List.length_take, Nat.min_eq_left hk] at hlk
      by_cases hlt : k < ns.length
      · obtain ⟨b, o, rfl, _, hc⟩ := hs2.at_ (i := k) (by simpa using hlt)
        rw [uvs_get] at hc
        have hT := vputs_take ns k hlt
        have hnk := hn ns[k] (List.getElem_mem hlt)
        have HT := Lib.hid (congrArg List.length hT)
        have hten := vput_ten ns[k] hnk
        clear hT
        generalize ns[k] = n at *
        go_wp2_with fail
        refine (size_any w2 n hnk).mono ?_
        rintro e w3 ⟨rfl, rfl⟩
        go_wp2_with fail
        go_round
        case rel => exact ⟨k + 1, by omega, by go_num, by rw [HT.out, List.length_append]; go_num⟩
        case measure => simp [intOf]; omega
      · obtain rfl : k = ns.length := by omega
        go_wp2_with fail
        refine (vAll_any w2 (fun _ => ⟨0, 0, none⟩) q (vputs ns) cq w2.heap.size (by omega) hcq hcm (Nat.le_refl _) hsl (fun h => by rw [HA.out] at h; exact absurd rfl h)).mono ?_
        rintro e w3 ⟨v3, rfl, hown3, hb3⟩
        rw [HA.out] at hown3
        rw [HA.out, show errOf (fun _ => ⟨0, 0, none⟩) ((ns, 0) : List Nat × Nat).2 = Value.nilIface from rfl]
        obtain ⟨q3, c3, rfl, hr3, _, _⟩ := own_rw hown3
        clear hown3
        have hs3 := (hs2.below (hb3.mono hb02.size)).more (Nat.le_trans hb02.size hb3.size)
        go_wp2_with fail
        refine (same_any w3 q3 p ns c3 c w3.heap.size (by omega) hr3 hs3).mono ?_
        rintro e w4 ⟨rfl, n4, rfl⟩
        go_wp2_with fail
        go_ret
        exact ⟨rfl, below_drewN (hb02.trans (hb3.mono hb02.size)) _⟩
  · go_enter Tryd.func5, Tryd.ntmps5
    have h60' : 60 < ns.length := by omega
    go_wp2_with fail
    refine (alive02_any w).mono ?_
    rintro e w1 ⟨rfl, hb1⟩
    go_wp2_with fail
    go_ret
    exact ⟨rfl, hb1⟩
end Go.Proofs.YtephohilhnieoaaDoor
