/- Part 2 of what the last text of this claim is proved by: walks over the program, and the math behind them. Conditions: as each theorem says. -/
import Derived.Test.YtagoikglbifhmaaGreatDoorPB01
import Derived.Lib.ParseIntB
import Derived.Lib.ParseIntBCases
import Derived.Lib.ItoaNum
import Derived.Lib.Bytealg
import Derived.Laws.BitsLemmas
import Derived.WalkKit
import Derived.Lib.Hide
import Derived.Laws.CopyOwn
import Derived.Laws.AppendOwnNone
import Derived.Deep.Draws
import Derived.Deep.AppendLies
import Derived.Deep.OwnRows
import Derived.Maps.AppendAt
import Derived.RegionTactic
import Derived.OwnWalk
namespace Go.Proofs.YtagoikglbifhmaaGreatDoor
open Go
structure St where
  kind : Int
  num : Int
  to : Int
  key : Vl
abbrev vnone : Vl := .mk 0 0 [] [] [] [] []
instance : Inhabited St := ⟨⟨0, 0, 0, vnone⟩⟩
def hexs : List UInt8 := [48, 49, 50, 51, 52, 53, 54, 55, 56, 57, 97, 98, 99, 100, 101, 102]
def hexd (n : Nat) : UInt8 := hexs.getD n 0
def hx (l : List UInt8) : List UInt8 := l.flatMap fun c => [hexd (c.toNat / 16), hexd (c.toNat % 16)]
def hidx (c : UInt8) : Int := Lib.indexByte hexs c
def hbn (h l : Int) : Int := IntKind.u8.wrap (IntKind.i64.wrap ((BitVec.ofInt 64 (IntKind.i64.wrap (h * 2 ^ 4)) ||| BitVec.ofInt 64 l).toNat : Int))
def hb (h l : Int) : UInt8 := UInt8.ofNat (hbn h l).toNat
def unhx : List UInt8 → List UInt8
  | a :: b :: r => hb (hidx a) (hidx b) :: unhx r
  | _ => []
theorem hbn_in (h l : Int) : 0 ≤ hbn h l ∧ hbn h l < 256 := by
  unfold hbn
  rw [IntKind.wrap_u8]
  omega
theorem hb_toNat (h l : Int) : ((hb h l).toNat : Int) = hbn h l := by
  have := hbn_in h l
  unfold hb
  rw [UInt8.toNat_ofNat']
  omega
theorem hb_hex : ∀ n : Fin 256, hb (hidx (hexd (n.1 / 16))) (hidx (hexd (n.1 % 16))) = UInt8.ofNat n.1 := by decide +kernel
theorem unhx_hx : ∀ l : List UInt8, unhx (hx l) = l
  | [] => rfl
  | c :: l => by
    show hb (hidx (hexd (c.toNat / 16))) (hidx (hexd (c.toNat % 16))) :: unhx (hx l) = c :: l
    rw [hb_hex ⟨c.toNat, UInt8.toNat_lt c⟩, unhx_hx l]
    simp
theorem hx_len (l : List UInt8) : (hx l).length = 2 * l.length := by
  induction l with
  | nil => rfl
  | cons c l ih =>
    show (hexd (c.toNat / 16) :: hexd (c.toNat % 16) :: hx l).length = _
    simp only [List.length_cons, ih]
    omega
theorem hexd_in : ∀ n : Fin 16, hexd n.1 ∈ hexs := by decide +kernel
theorem hx_mem {l : List UInt8} {c : UInt8} (h : c ∈ hx l) : c ∈ hexs := by
  unfold hx at h
  obtain ⟨d, _, h2⟩ := List.mem_flatMap.1 h
  have hd := UInt8.toNat_lt d
  simp only [List.mem_cons, List.not_mem_nil, or_false] at h2
  rcases h2 with rfl | rfl
  · exact hexd_in ⟨d.toNat / 16, by omega⟩
  · exact hexd_in ⟨d.toNat % 16, by omega⟩
def isDig (c : UInt8) : Bool := decide (48 ≤ c.toNat) && decide (c.toNat ≤ 57)
def cutB (c : UInt8) (l : List UInt8) : List UInt8 := l.takeWhile (· != c)
def cutA (c : UInt8) (l : List UInt8) : List UInt8 := (l.dropWhile (· != c)).drop 1
def cutF (c : UInt8) (l : List UInt8) : Bool := l.contains c
def trimQ (l : List UInt8) : List UInt8 := if l.getLast? = some 39 then l.dropLast else l
def numOf (l : List UInt8) : Int := match Lib.atoiAll l with | .ok v => v | _ => -1
def ktxt (l : List UInt8) : Vl := .mk 2 0 l [] [] [] []
def knum (n : Nat) : Vl := .mk 1 n [] [] [] [] []
def keyOf (l : List UInt8) : Vl :=
  match l with
  | 39 :: r => ktxt (unhx (trimQ r))
  | l => match Lib.parseUintB 64 l with | .ok u => knum u | _ => vnone
def numbered (k : Int) (l : List UInt8) : St × List UInt8 := (⟨k, numOf (l.takeWhile isDig), 0, vnone⟩, l.dropWhile isDig)
def listed (l : List UInt8) : St := if cutF 58 l then ⟨5, numOf (cutB 58 l), numOf (cutA 58 l), vnone⟩ else ⟨3, numOf (cutB 58 l), 0, vnone⟩
def fst1 (c : UInt8) (l : List UInt8) : St × List UInt8 :=
  if c = 46 then numbered 1 l else if c = 124 then numbered 6 l else if c = 126 then (⟨4, 0, 0, vnone⟩, l)
  else if c = 123 then (⟨2, 0, 0, keyOf (cutB 125 l)⟩, cutA 125 l) else if c = 91 then (listed (cutB 93 l), cutA 93 l) else (default, [])
theorem dropWhile_le {α : Type} (p : α → Bool) (l : List α) : (l.dropWhile p).length ≤ l.length := (List.dropWhile_sublist p).length_le
theorem takeWhile_le {α : Type} (p : α → Bool) (l : List α) : (l.takeWhile p).length ≤ l.length := (List.takeWhile_sublist p).length_le
theorem cutA_le (c : UInt8) (l : List UInt8) : (cutA c l).length ≤ l.length := by
  have := dropWhile_le (· != c) l
  unfold cutA
  rw [List.length_drop]
  omega
theorem cutB_le (c : UInt8) (l : List UInt8) : (cutB c l).length ≤ l.length := takeWhile_le _ l
theorem fst1_le (c : UInt8) (l : List UInt8) : (fst1 c l).2.length ≤ l.length := by
  have h1 := dropWhile_le isDig l
  have h2 := cutA_le 125 l
  have h3 := cutA_le 93 l
  unfold fst1
  repeat' split
  all_goals first | exact h1 | exact h2 | exact h3 | exact Nat.le_refl _ | exact Nat.zero_le _
def psteps : List UInt8 → List St
  | [] => []
  | c :: l => (fst1 c l).1 :: psteps (fst1 c l).2
termination_by l => l.length
decreasing_by
  have := fst1_le c l
  simp only [List.length_cons]
  omega
theorem psteps_cons (c : UInt8) (l : List UInt8) : psteps (c :: l) = (fst1 c l).1 :: psteps (fst1 c l).2 := by rw [psteps]
theorem psteps_len : ∀ l : List UInt8, (psteps l).length ≤ l.length
  | [] => by rw [psteps]; exact Nat.le_refl _
  | c :: l => by
    have h := fst1_le c l
    have := psteps_len (fst1 c l).2
    rw [psteps_cons, List.length_cons, List.length_cons]
    omega
termination_by l => l.length
decreasing_by
  have := fst1_le c l
  simp only [List.length_cons]
  omega
def snumR (s : St) : Bool := if s.kind = 2 ∨ s.kind = 4 then decide (s.num = 0) else decide (0 ≤ s.num) && decide (s.num ≤ 1073741824)
def stoR (s : St) : Bool := if s.kind = 5 then decide (s.num ≤ s.to) && decide (s.to ≤ 1073741824) else decide (s.to = 0)
def skeyF (s : St) : Bool := if s.kind = 2 then decide (s.key.kind = 1) || (decide (s.key.kind = 2) && decide (s.key.text.length ≤ 4096)) else decide (s.key.kind = 0)
def srt (s : St) : Bool := decide (1 ≤ s.kind) && decide (s.kind ≤ 6) && snumR s && stoR s && (skeyF s && vright s.key)
def keyT (k : Vl) : List UInt8 := if k.kind = 1 then Lib.decDigits k.num else 39 :: (hx k.text ++ [39])
def stT (s : St) : List UInt8 :=
  if s.kind = 1 then 46 :: Lib.itoa s.num
  else if s.kind = 2 then 123 :: (keyT s.key ++ [125])
  else if s.kind = 3 then 91 :: (Lib.itoa s.num ++ [93])
  else if s.kind = 4 then [126]
  else if s.kind = 5 then 91 :: (Lib.itoa s.num ++ 58 :: (Lib.itoa s.to ++ [93]))
  else 124 :: Lib.itoa s.num
def ptext (p : List St) : List UInt8 := if p.all srt then p.flatMap stT else []
theorem dec_dig (u : Nat) : ∀ c ∈ Lib.decDigits u, isDig c = true := by
  induction u using Nat.strongRecOn with
  | _ u ih =>
    intro c hc
    rw [Lib.decDigits] at hc
    split at hc
    · rename_i h
      simp only [List.mem_cons, List.not_mem_nil, or_false] at hc
      subst hc
      have : (UInt8.ofNat (48 + u)).toNat = 48 + u := by rw [UInt8.toNat_ofNat']; omega
      unfold isDig
      rw [this]
      simp
      omega
    · rename_i h
      rcases List.mem_append.1 hc with hc | hc
      · exact ih (u / 10) (by omega) c hc
      · simp only [List.mem_cons, List.not_mem_nil, or_false] at hc
        subst hc
        have : (UInt8.ofNat (48 + u % 10)).toNat = 48 + u % 10 := by rw [UInt8.toNat_ofNat']; omega
        unfold isDig
        rw [this]
        simp
        omega
theorem dec_cons (u : Nat) : ∃ c r, Lib.decDigits u = c :: r ∧ isDig c = true := by
  cases h : Lib.decDigits u with
  | nil =>
    exfalso
    rw [Lib.decDigits] at h
    split at h
    · cases h
    · simp at h
  | cons c r => exact ⟨c, r, rfl, dec_dig u c (by rw [h]; exact List.mem_cons_self)⟩
theorem parse_dec (u : Nat) : u < 18446744073709551616 → ∀ r, Lib.parseUint10 0 (Lib.decDigits u ++ r) = Lib.parseUint10 u r := by
  induction u using Nat.strongRecOn with
  | _ u ih =>
    intro hu r
    rw [Lib.decDigits]
    split
    · rename_i h
      have e : (UInt8.ofNat (48 + u)).toNat = 48 + u := by rw [UInt8.toNat_ofNat']; omega
      rw [List.singleton_append, Lib.parseUint10, e, if_pos (by omega), if_neg (by omega), if_neg (by omega)]
      congr 1
      omega
    · rename_i h
      have e : (UInt8.ofNat (48 + u % 10)).toNat = 48 + u % 10 := by rw [UInt8.toNat_ofNat']; omega
      rw [List.append_assoc, ih (u / 10) (by omega) (by omega), List.singleton_append, Lib.parseUint10, e, if_pos (by omega), if_neg (by omega), if_neg (by omega)]
      congr 1
      omega
theorem mag_dec {u : Nat} (hu : u < 18446744073709551616) : Lib.parseMag (Lib.decDigits u) = .ok u := by
  obtain ⟨c, r, hc, _⟩ := dec_cons u
  have h := parse_dec u hu []
  rw [List.append_nil] at h
  unfold Lib.parseMag
  rw [if_neg (by rw [hc]; simp), h]
  rfl
theorem atoi_dec {u : Nat} (hu : u < 9223372036854775808) : Lib.atoiAll (Lib.decDigits u) = .ok (u : Int) := by
  obtain ⟨c, r, hc, hd⟩ := dec_cons u
  have hm := mag_dec (u := u) (by omega)
  unfold isDig at hd
  simp only [Bool.and_eq_true, decide_eq_true_eq] at hd
  rw [hc] at hm ⊢
  simp only [Lib.atoiAll]
  rw [if_neg (by omega), hm]
  simp only
  rw [if_neg (by omega), if_neg (by omega), if_neg (by omega)]
theorem itoa_nat {n : Int} (h : 0 ≤ n) : Lib.itoa n = Lib.decDigits n.toNat := if_neg (by omega)
theorem num_itoa {n : Int} (h0 : 0 ≤ n) (h1 : n < 9223372036854775808) : numOf (Lib.itoa n) = n := by
  rw [itoa_nat h0]
  unfold numOf
  rw [atoi_dec (by omega)]
  simp only
  omega
def NoDig (l : List UInt8) : Prop := ∀ c r, l = c :: r → isDig c = false
theorem dropWhile_app {α : Type} {p : α → Bool} {a b : List α} (ha : ∀ x ∈ a, p x = true) (hb : ∀ x r, b = x :: r → p x = false) : (a ++ b).dropWhile p = b ∧ (a ++ b).takeWhile p = a := by
  induction a with
  | nil =>
    rw [List.nil_append]
    cases b with
    | nil => exact ⟨rfl, rfl⟩
    | cons x r => rw [List.dropWhile_cons, List.takeWhile_cons, hb x r rfl]; exact ⟨rfl, rfl⟩
  | cons x a ih =>
    have h1 := ih fun y hy => ha y (List.mem_cons_of_mem _ hy)
    rw [List.cons_append, List.dropWhile_cons, List.takeWhile_cons, ha x List.mem_cons_self]
    exact ⟨h1.1, by rw [if_pos rfl, h1.2]⟩
theorem cut_app {c : UInt8} {a b : List UInt8} (ha : c ∉ a) : cutB c (a ++ c :: b) = a ∧ cutA c (a ++ c :: b) = b ∧ cutF c (a ++ c :: b) = true := by
  have h := dropWhile_app (p := fun x => x != c) (a := a) (b := c :: b) (fun x hx => by
    have : x ≠ c := fun e => ha (e ▸ hx)
    simpa using this) fun x r e => by
    injection e with e1 e2
    subst e1
    simp
  refine ⟨h.2, ?_, by simp [cutF]⟩
  unfold cutA
  rw [h.1]
  rfl
theorem cut_no {c : UInt8} {a : List UInt8} (ha : c ∉ a) : cutB c a = a ∧ cutF c a = false := by
  have h := dropWhile_app (p := fun x => x != c) (a := a) (b := []) (fun x hx => by
    have : x ≠ c := fun e => ha (e ▸ hx)
    simpa using this) fun x r e => by cases e
  rw [List.append_nil] at h
  exact ⟨h.2, by simpa [cutF] using ha⟩
theorem dec_not {u : Nat} {c : UInt8} (hc : isDig c = false) : c ∉ Lib.decDigits u := fun h => by
  have := dec_dig u c h
  rw [hc] at this
  cases this
theorem itoa_not {n : Int} (h0 : 0 ≤ n) {c : UInt8} (hc : isDig c = false) : c ∉ Lib.itoa n := by
  rw [itoa_nat h0]
  exact dec_not hc
theorem numbered_text (k : Int) {n : Int} (h0 : 0 ≤ n) (h1 : n ≤ 1073741824) {r : List UInt8} (hr : NoDig r) : numbered k (Lib.itoa n ++ r) = (⟨k, n, 0, vnone⟩, r) := by
  have h := dropWhile_app (p := isDig) (a := Lib.itoa n) (b := r) (by rw [itoa_nat h0]; exact dec_dig _) hr
  unfold numbered
  rw [h.1, h.2, num_itoa h0 (by omega)]
theorem plain_none {k : Vl} (h : vright k = true) (h0 : k.kind = 0) : k = vnone := by
  rw [vright_eq] at h
  simp only [Bool.and_eq_true] at h
  obtain ⟨_, _, h1, h2, h3, h4, h5⟩ := (vplain_iff k).1 h.1.1.1
  rw [k.eta]
  have e4 : k.list = [] := Classical.byContradiction fun hn => by have := h4.2 hn; omega
  have e5 : k.pairs = [] := Classical.byContradiction fun hn => by have := h5.2 hn; omega
  rw [h0, h1 (by omega), h2 (by omega), (h3 (by omega)).1, (h3 (by omega)).2, e4, e5]
theorem plain_num {k : Vl} (h : vright k = true) (h0 : k.kind = 1) : k = knum k.num := by
  rw [vright_eq] at h
  simp only [Bool.and_eq_true] at h
  obtain ⟨_, _, h1, h2, h3, h4, h5⟩ := (vplain_iff k).1 h.1.1.1
  have e4 : k.list = [] := Classical.byContradiction fun hn => by have := h4.2 hn; omega
  have e5 : k.pairs = [] := Classical.byContradiction fun hn => by have := h5.2 hn; omega
  have e := k.eta
  rw [h0, h2 (by omega), (h3 (by omega)).1, (h3 (by omega)).2, e4, e5] at e
  exact e
theorem plain_txt {k : Vl} (h : vright k = true) (h0 : k.kind = 2) : k = ktxt k.text := by
  rw [vright_eq] at h
  simp only [Bool.and_eq_true] at h
  obtain ⟨_, _, h1, h2, h3, h4, h5⟩ := (vplain_iff k).1 h.1.1.1
  have e4 : k.list = [] := Classical.byContradiction fun hn => by have := h4.2 hn; omega
  have e5 : k.pairs = [] := Classical.byContradiction fun hn => by have := h5.2 hn; omega
  have e := k.eta
  rw [h0, h1 (by omega), (h3 (by omega)).1, (h3 (by omega)).2, e4, e5] at e
  exact e
theorem trimQ_app (l : List UInt8) : trimQ (l ++ [39]) = l := by
  unfold trimQ
  rw [List.getLast?_concat, if_pos rfl, List.dropLast_concat]
theorem keyOf_num {n : Nat} (h : n < 18446744073709551616) : keyOf (Lib.decDigits n) = knum n := by
  obtain ⟨c, r, hc, hd⟩ := dec_cons n
  have hm := mag_dec h
  rw [hc] at hm ⊢
  have h39 : c ≠ 39 := fun e => by rw [e] at hd; exact absurd hd (by decide)
  unfold keyOf
  split
  · rename_i e
    injection e with e1 e2
    exact absurd e1 h39
  · rw [Lib.parseUintB_64, hm]
theorem keyOf_txt (t : List UInt8) : keyOf (39 :: (hx t ++ [39])) = ktxt t := by
  show ktxt (unhx (trimQ (hx t ++ [39]))) = _
  rw [trimQ_app, unhx_hx]
theorem key_no {k : Vl} : (125 : UInt8) ∉ keyT k := by
  unfold keyT
  split
  · exact dec_not (by decide)
  · intro h
    simp only [List.mem_cons, List.mem_append, List.not_mem_nil, or_false] at h
    rcases h with h | h | h
    · exact absurd h (by decide)
    · have := hx_mem h
      revert this
      decide
    · exact absurd h (by decide)
theorem key_back {k : Vl} (h : vright k = true) (hk : k.kind = 1 ∨ k.kind = 2) (hn : k.num < 18446744073709551616) : keyOf (keyT k) = k := by
  rcases hk with h0 | h0
  · unfold keyT
    rw [if_pos h0, keyOf_num hn]
    exact (plain_num h h0).symm
  · unfold keyT
    rw [if_neg (by omega), keyOf_txt]
    exact (plain_txt h h0).symm
theorem st_eq {s : St} {k n t : Int} {v : Vl} (h1 : s.kind = k) (h2 : s.num = n) (h3 : s.to = t) (h4 : s.key = v) : (⟨k, n, t, v⟩ : St) = s := by
  subst h1 h2 h3 h4
  rfl
theorem fst_text {s : St} (hs : srt s = true) (hn : s.key.num < 18446744073709551616) {r : List UInt8} (hr : NoDig r) : ∃ c l, stT s ++ r = c :: l ∧ fst1 c l = (s, r) := by
  unfold srt at hs
  simp only [Bool.and_eq_true, decide_eq_true_eq] at hs
  obtain ⟨⟨⟨⟨a1, a2⟩, a3⟩, a4⟩, a5, a6⟩ := hs
  by_cases k1 : s.kind = 1
  · have hN : 0 ≤ s.num ∧ s.num ≤ 1073741824 := by simpa [snumR, k1] using a3
    have hT : s.to = 0 := by simpa [stoR, k1] using a4
    have hK : s.key.kind = 0 := by simpa [skeyF, k1] using a5
    refine ⟨46, Lib.itoa s.num ++ r, by simp [stT, k1], ?_⟩
    rw [fst1, if_pos rfl, numbered_text 1 hN.1 hN.2 hr, st_eq k1 rfl hT (plain_none a6 hK)]
  by_cases k2 : s.kind = 2
  · have hN : s.num = 0 := by simpa [snumR, k2] using a3
    have hT : s.to = 0 := by simpa [stoR, k2] using a4
    have hK : s.key.kind = 1 ∨ s.key.kind = 2 := by
      have : s.key.kind = 1 ∨ s.key.kind = 2 ∧ s.key.text.length ≤ 4096 := by simpa [skeyF, k2] using a5
      rcases this with h | h
      · exact .inl h
      · exact .inr h.1
    have hc := cut_app (c := 125) (a := keyT s.key) (b := r) key_no
    refine ⟨123, keyT s.key ++ 125 :: r, by simp [stT, k2], ?_⟩
    rw [fst1, if_neg (by decide), if_neg (by decide), if_neg (by decide), if_pos rfl, hc.1, hc.2.1, key_back a6 hK hn, st_eq k2 hN hT rfl]
  by_cases k3 : s.kind = 3
  · have hN : 0 ≤ s.num ∧ s.num ≤ 1073741824 := by simpa [snumR, k3] using a3
    have hT : s.to = 0 := by simpa [stoR, k3] using a4
    have hK : s.key.kind = 0 := by simpa [skeyF, k3] using a5
    have hc := cut_app (c := 93) (a := Lib.itoa s.num) (b := r) (itoa_not hN.1 (by decide))
    have hd := cut_no (c := 58) (a := Lib.itoa s.num) (itoa_not hN.1 (by decide))
    refine ⟨91, Lib.itoa s.num ++ 93 :: r, by simp [stT, k3], ?_⟩
    rw [fst1, if_neg (by decide), if_neg (by decide), if_neg (by decide), if_neg (by decide), if_pos rfl, hc.1, hc.2.1, listed, hd.2, if_neg (by decide), hd.1, num_itoa hN.1 (by omega), st_eq k3 rfl hT (plain_none a6 hK)]
  by_cases k4 : s.kind = 4
  · have hN : s.num = 0 := by simpa [snumR, k4] using a3
    have hT : s.to = 0 := by simpa [stoR, k4] using a4
    have hK : s.key.kind = 0 := by simpa [skeyF, k4] using a5
    refine ⟨126, r, by simp [stT, k4], ?_⟩
    rw [fst1, if_neg (by decide), if_neg (by decide), if_pos rfl, st_eq k4 hN hT (plain_none a6 hK)]
  by_cases k5 : s.kind = 5
  · have hN : 0 ≤ s.num ∧ s.num ≤ 1073741824 := by simpa [snumR, k5] using a3
    have hT : s.num ≤ s.to ∧ s.to ≤ 1073741824 := by simpa [stoR, k5] using a4
    have hK : s.key.kind = 0 := by simpa [skeyF, k5] using a5
    have hc := cut_app (c := 93) (a := Lib.itoa s.num ++ 58 :: Lib.itoa s.to) (b := r) (fun h => by
      simp only [List.mem_append, List.mem_cons] at h
      rcases h with h | h | h
      · exact itoa_not hN.1 (by decide) h
      · exact absurd h (by decide)
      · exact itoa_not (by omega) (by decide) h)
    have hd := cut_app (c := 58) (a := Lib.itoa s.num) (b := Lib.itoa s.to) (itoa_not hN.1 (by decide))
    refine ⟨91, (Lib.itoa s.num ++ 58 :: Lib.itoa s.to) ++ 93 :: r, by simp [stT, k5], ?_⟩
    rw [fst1, if_neg (by decide), if_neg (by decide), if_neg (by decide), if_neg (by decide), if_pos rfl, hc.1, hc.2.1, listed, hd.2.2, if_pos rfl, hd.1, hd.2.1, num_itoa hN.1 (by omega), num_itoa (by omega) (by omega), st_eq k5 rfl rfl (plain_none a6 hK)]
  · have k6 : s.kind = 6 := by omega
    have hN : 0 ≤ s.num ∧ s.num ≤ 1073741824 := by simpa [snumR, k6] using a3
    have hT : s.to = 0 := by simpa [stoR, k6] using a4
    have hK : s.key.kind = 0 := by simpa [skeyF, k6] using a5
    refine ⟨124, Lib.itoa s.num ++ r, by simp [stT, k6], ?_⟩
    rw [fst1, if_neg (by decide), if_pos rfl, numbered_text 6 hN.1 hN.2 hr, st_eq k6 rfl hT (plain_none a6 hK)]
theorem stT_noDig (s : St) (r : List UInt8) : NoDig (stT s ++ r) := fun c l h => by
  unfold stT at h
  repeat' split at h
  all_goals
    injection h with h1 h2
    subst h1
    decide
theorem texts_noDig (p : List St) : NoDig (p.flatMap stT) := by
  cases p with
  | nil => exact fun c l h => by cases h
  | cons s p => rw [List.flatMap_cons]; exact stT_noDig s _
theorem psteps_text : ∀ {p : List St}, p.all srt = true → (∀ s ∈ p, s.key.num < 18446744073709551616) → psteps (p.flatMap stT) = p
  | [], _, _ => by rw [List.flatMap_nil, psteps]
  | s :: p, h, hn => by
    rw [List.all_cons, Bool.and_eq_true] at h
    obtain ⟨c, l, h1, h2⟩ := fst_text h.1 (hn s List.mem_cons_self) (texts_noDig p)
    rw [List.flatMap_cons, h1, psteps_cons, h2, psteps_text h.2 fun t ht => hn t (List.mem_cons_of_mem _ ht)]
end Go.Proofs.YtagoikglbifhmaaGreatDoor
namespace Go.Proofs.YtagoikglbifhmaaGreatDoor
open Go.RowKit
def bv (b : UInt8) : Value := .int .u8 (b.toNat : Int)
def Blk (w : World) (g : Nat) (t : TypeId) (cs : List Value) : Prop := w.heap[g]? = some (.cells cs.toArray t (0, 0))
section
variable {w w' : World} {g : Nat} {t : TypeId} {cs : List Value}
theorem Blk.lt (h : Blk w g t cs) : g < w.heap.size := by
  rcases Nat.lt_or_ge g w.heap.size with hlt | hge
  · exact hlt
  · unfold Blk at h; rw [Array.getElem?_eq_none hge] at h; cases h
theorem Blk.cell (h : Blk w g t cs) (i : Nat) : w.cell? ⟨g, i, none⟩ = cs[i]? := by
  rw [cell_of_row w g i cs.toArray t (0, 0) h]; simp
theorem Blk.frozen (h : Blk w g t cs) (i : Nat) : w.frozen? ⟨g, i, none⟩ = false := by
  unfold Blk at h
  simp [World.frozen?, h]
theorem Blk.new (w : World) (t : TypeId) (cs : List Value) : Blk (w.alloc (.cells cs.toArray t)) w.heap.size t cs := heap_alloc_new w _
theorem Blk.drew (h : Blk w g t cs) : Blk w.drew g t cs := h
theorem Blk.drewN (h : Blk w g t cs) (n : Nat) : Blk (w.drewN n) g t cs := h
theorem Blk.alloc (h : Blk w g t cs) (o : Obj) : Blk (w.alloc o) g t cs := (Below.heap_alloc w o g h.lt).trans h
theorem Blk.set_ (h : Blk w g t cs) (i : Nat) (u : Value) : Blk (w.setCell ⟨g, i, none⟩ u) g t (cs.set i u) := by
  unfold Blk at h ⊢
  simp [World.setCell, Array.getElem?_modify, h]
theorem Blk.below {B : Nat} (h : Blk w g t cs) (hb : Below B w w') (hg : g < B) : Blk w' g t cs := (hb.block g hg).trans h
theorem Blk.kept (h : Blk w g t cs) (hb : Below w.heap.size w w') : Blk w' g t cs := h.below hb h.lt
theorem Blk.grown {row : Option Nat} (h : Blk w g t cs) (hb : w.grownBy w' row) (hg : some g ≠ row) : Blk w' g t cs := (hb.block g h.lt hg).trans h
theorem Blk.same {cs' : List Value} (h : Blk w g t cs) (h' : Blk w g t cs') : cs = cs' := by
  unfold Blk at h h'
  rw [h] at h'
  injection h' with h'
  injection h' with h1 _
  simpa using h1
end
def Sl (w : World) (B : Nat) (p : Option Addr) (l : List UInt8) : Prop :=
  0 < l.length → ∃ b o, p = some ⟨b, o, none⟩ ∧ b < B ∧ ∀ (i : Nat) (x : UInt8), l[i]? = some x → w.cell? ⟨b, o + i, none⟩ = some (bv x)
section
variable {w w' : World} {B B' : Nat} {p : Option Addr} {l : List UInt8}
theorem Sl.nil (w : World) (B : Nat) (p : Option Addr) : Sl w B p [] := fun h => absurd h (Nat.lt_irrefl 0)
theorem Sl.more (h : Sl w B p l) (hB : B ≤ B') : Sl w B' p l := fun hl => by
  obtain ⟨b, o, e, hb, hc⟩ := h hl
  exact ⟨b, o, e, by omega, hc⟩
theorem Sl.below (h : Sl w B p l) (hb : Below B w w') : Sl w' B p l := fun hl => by
  obtain ⟨b, o, e, hlt, hc⟩ := h hl
  exact ⟨b, o, e, hlt, fun i x hx => (hb.cell (p := ⟨b, o + i, none⟩) hlt).trans (hc i x hx)⟩
theorem Sl.src (h : Sl w B p l) (hl : 0 < l.length) : ∃ ad, p = some ad ∧ ∀ j v, (l.map bv)[j]? = some v → w.cell? (ad.add j) = some v := by
  obtain ⟨b, o, rfl, _, hc⟩ := h hl
  refine ⟨_, rfl, fun j v hv => ?_⟩
  rw [List.getElem?_map] at hv
  obtain ⟨x, hx, rfl⟩ := Option.map_eq_some_iff.1 hv
  have e : (⟨b, o, none⟩ : Addr).add j = ⟨b, o + j, none⟩ := by unfold Addr.add; split <;> simp_all
  rw [e]; exact hc j x hx
end
section
variable {P : Program} (w : World)
theorem run_append_of_nil (base : Nat) (t ty e : TypeId) (i : TypeInfo) (size : Nat) (ht : P.underlying t = some (.slice e)) (hi : P.info? e = some i)
    (v : Value) (n : Nat) (xs : List Value) (hown : w.ownsRow base e size v n xs) (c : Nat) : (Builtin.append_ #[t, t] ty #[v, .slice none 0 c]).run P w = .ok v w := by
  rcases hown.2 with ⟨rfl, rfl⟩ | ⟨g, cap, cur, rfl, _, _, hnc, _⟩
  · simp [Builtin.append_, run_underlying ht, sizeOf, typeInfo, hi, Builtin.lenOf, Builtin.firstCells]
  · simp [Builtin.append_, run_underlying ht, sizeOf, typeInfo, hi, Builtin.lenOf, Builtin.firstCells, hnc, storeCells]
end
section
variable {w : World} {base : Nat} {e : TypeId} {v : Value} {n : Nat} {xs : List Value}
end
end Go.Proofs.YtagoikglbifhmaaGreatDoor
namespace Go.Proofs.YtagoikglbifhmaaGreatDoor
open Go.RowKit
inductive Dat where
  | cell (v : Value)
  | row (k n : Nat) (ds : List Dat)
  | ptr (t : TypeId) (ds : List Dat)
  | ifc (t : TypeId) (d : Dat)
  | map (n : Nat) (ds : List Dat)
def kvs : List MapEntry → List Value
  | [] => []
  | e :: es => e.key :: e.val :: kvs es
inductive Lies (w : World) (D : Nat → Prop) : Dat → Value → Prop where
  | cell (v : Value) : Lies w D (.cell v) v
  | none (k : Nat) (p : Option Addr) (c : Nat) : Lies w D (.row k 0 []) (.slice p 0 c)
  | row (k n b o c : Nat) (ds : List Dat) (X : Nat → Value) : 0 < n → n ≤ c → ds.length = n * k → D b → (∀ j, j < ds.length → w.cell? ⟨b, o + j, none⟩ = some (X j)) → (∀ j d, ds[j]? = some d → Lies w D d (X j)) → Lies w D (.row k n ds) (.slice (some ⟨b, o, none⟩) n c)
  | ptr (b : Nat) (t : TypeId) (ds : List Dat) (xs : List Value) : D b → Blk w b t xs → ds.length = xs.length → (∀ (j : Nat) d x, ds[j]? = some d → xs[j]? = some x → Lies w D d x) → Lies w D (.ptr t ds) (.pointer (some ⟨b, 0, none⟩))
  | ifc (t : TypeId) (d : Dat) (v : Value) : Lies w D d v → Lies w D (.ifc t d) (.iface t v)
  | map (g n : Nat) (es : Array MapEntry) (clock : Nat) (ds : List Dat) (xs : List Value) : D g → w.heap[g]? = some (.map es clock) → es.size = n → kvs es.toList = xs → ds.length = xs.length → (∀ (j : Nat) d x, ds[j]? = some d → xs[j]? = some x → Lies w D d x) → Lies w D (.map n ds) (.map (some g))
def Keeps (D : Nat → Prop) (w w' : World) : Prop := ∀ b, D b → w'.heap[b]? = w.heap[b]?
theorem Keeps.refl (D : Nat → Prop) (w : World) : Keeps D w w := fun _ _ => rfl
theorem Keeps.trans {D : Nat → Prop} {a b c : World} (h : Keeps D a b) (k : Keeps D b c) : Keeps D a c := fun g hg => (k g hg).trans (h g hg)
theorem Keeps.of_below {D : Nat → Prop} {B : Nat} {w w' : World} (hb : Below B w w') (hD : ∀ g, D g → g < B) : Keeps D w w' := fun g hg => hb.block g (hD g hg)
theorem Keeps.of_grown {D : Nat → Prop} {w w' : World} {r : Option Nat} (hg : w.grownBy w' r) (hD : ∀ g, D g → g < w.heap.size) (hr : ∀ g, D g → some g ≠ r) : Keeps D w w' := fun g h => hg.block g (hD g h) (hr g h)
theorem Lies.stay {w w' : World} {D D' : Nat → Prop} {d : Dat} {v : Value} (h : Lies w D d v) (hk' : Keeps D w w') (hD : ∀ g, D g → D' g) : Lies w' D' d v := by
  induction h with
  | cell v => exact .cell v
  | none k p c => exact .none k p c
  | row k n b o c ds X hn hnc hl hb hc _ ih =>
    exact .row k n b o c ds X hn hnc hl (hD b hb) (fun j hj => (World.cell?_of_block (a := ⟨b, o + j, Option.none⟩) (hk' b hb)).trans (hc j hj)) ih
  | ptr b t ds xs hb hc hl _ ih => exact .ptr b t ds xs (hD b hb) ((hk' b hb).trans hc) hl ih
  | ifc t d v _ ih => exact .ifc t d v ih
  | map g n es clock ds xs hg hh hn hk hl _ ih => exact .map g n es clock ds xs (hD g hg) ((hk' g hg).trans hh) hn hk hl ih
def Fits (w : World) (D : Nat → Prop) (ds : List Dat) (xs : List Value) : Prop := ds.length = xs.length ∧ ∀ (j : Nat) d x, ds[j]? = some d → xs[j]? = some x → Lies w D d x
theorem Fits.stay {w w' : World} {D D' : Nat → Prop} {ds : List Dat} {xs : List Value} (h : Fits w D ds xs) (hk : Keeps D w w') (hD : ∀ g, D g → D' g) : Fits w' D' ds xs := ⟨h.1, fun j d x h1 h2 => (h.2 j d x h1 h2).stay hk hD⟩
theorem Fits.nil (w : World) (D : Nat → Prop) : Fits w D [] [] := ⟨rfl, fun j d x h => by simp at h⟩
theorem Fits.cons {w : World} {D : Nat → Prop} {d : Dat} {x : Value} {ds : List Dat} {xs : List Value} (h1 : Lies w D d x) (h2 : Fits w D ds xs) : Fits w D (d :: ds) (x :: xs) := by
  refine ⟨by simp [h2.1], fun j d' x' a b => ?_⟩
  cases j with
  | zero =>
    simp at a b
    exact a ▸ b ▸ h1
  | succ j => exact h2.2 j d' x' (by simpa using a) (by simpa using b)
theorem Fits.head {w : World} {D : Nat → Prop} {d : Dat} {ds : List Dat} {xs : List Value} (h : Fits w D (d :: ds) xs) : ∃ x ys, xs = x :: ys ∧ Lies w D d x ∧ Fits w D ds ys := by
  obtain ⟨hl, hx⟩ := h
  cases xs with
  | nil => simp at hl
  | cons x ys => exact ⟨x, ys, rfl, hx 0 d x rfl rfl, by simpa using hl, fun j d' x' a b => hx (j + 1) d' x' (by simpa using a) (by simpa using b)⟩
theorem Fits.append {w : World} {D : Nat → Prop} {ds es : List Dat} {xs ys : List Value} (h1 : Fits w D ds xs) (h2 : Fits w D es ys) : Fits w D (ds ++ es) (xs ++ ys) := by
  refine ⟨by simp [h1.1, h2.1], fun j d x a b => ?_⟩
  rcases Nat.lt_or_ge j ds.length with hj | hj
  · rw [List.getElem?_append_left hj] at a
    rw [List.getElem?_append_left (by rw [← h1.1]; exact hj)] at b
    exact h1.2 j d x a b
  · rw [List.getElem?_append_right hj] at a
    rw [List.getElem?_append_right (by rw [← h1.1]; exact hj), ← h1.1] at b
    exact h2.2 _ d x a b
theorem Lies.cell_eq {w : World} {D : Nat → Prop} {v x : Value} (h : Lies w D (.cell v) x) : x = v := by cases h; rfl
theorem Fits.cells {w : World} {D : Nat → Prop} {vs xs : List Value} (h : Fits w D (vs.map .cell) xs) : xs = vs := by
  induction vs generalizing xs with
  | nil => exact List.eq_nil_of_length_eq_zero (by simpa using h.1.symm)
  | cons v vs ih =>
    obtain ⟨x, ys, rfl, h1, h2⟩ := Fits.head h
    rw [h1.cell_eq, ih h2]
theorem Fits.part {w : World} {D : Nat → Prop} {ds : List Dat} {xs : List Value} (h : Fits w D ds xs) (i k : Nat) : Fits w D ((ds.drop i).take k) ((xs.drop i).take k) := by
  refine ⟨by simp [h.1], fun j d x a b => ?_⟩
  rw [List.getElem?_take] at a b
  split at a
  · rename_i hj
    rw [if_pos hj] at b
    rw [List.getElem?_drop] at a b
    exact h.2 _ d x a b
  · cases a
theorem flat_len {α : Type} {f : α → List Dat} {k : Nat} (hk : ∀ a, (f a).length = k) : ∀ qs : List α, (qs.flatMap f).length = qs.length * k
  | [] => by simp
  | a :: qs => by rw [List.flatMap_cons, List.length_append, hk, flat_len hk qs, List.length_cons, Nat.succ_mul]; omega
theorem flat_part {α : Type} {f : α → List Dat} {k : Nat} (hk : ∀ a, (f a).length = k) : ∀ (qs : List α) (i : Nat) (a : α), qs[i]? = some a → ((qs.flatMap f).drop (i * k)).take k = f a
  | [], i, a, h => by simp at h
  | x :: qs, 0, a, h => by
    obtain rfl : x = a := by simpa using h
    rw [List.flatMap_cons, Nat.zero_mul, List.drop_zero, ← hk x, List.take_left]
  | x :: qs, i + 1, a, h => by
    rw [List.flatMap_cons, show (i + 1) * k = (f x).length + i * k by rw [hk, Nat.succ_mul]; omega, List.drop_append]
    rw [List.drop_of_length_le (by omega), List.nil_append, show (f x).length + i * k - (f x).length = i * k by omega]
    exact flat_part hk qs i a (by simpa using h)
def RowD (w : World) (D : Nat → Prop) (k : Nat) (p : Option Addr) {α : Type} (f : α → List Dat) (qs : List α) : Prop :=
  0 < qs.length → ∃ b o, p = some ⟨b, o, none⟩ ∧ D b ∧ ∀ (i : Nat) a, qs[i]? = some a → ∃ xs : List Value, xs.length = k ∧ (∀ (j : Nat) x, xs[j]? = some x → w.cell? ⟨b, o + i * k + j, none⟩ = some x) ∧ Fits w D (f a) xs
theorem RowD.stay {w w' : World} {D : Nat → Prop} {k : Nat} {p : Option Addr} {α : Type} {f : α → List Dat} {qs : List α} (h : RowD w D k p f qs) (hk : Keeps D w w') : RowD w' D k p f qs := fun hl => by
  obtain ⟨b, o, e, hb, hc⟩ := h hl
  exact ⟨b, o, e, hb, fun i a ha => by
    obtain ⟨xs, h1, h2, h3⟩ := hc i a ha
    exact ⟨xs, h1, fun j x hx => (World.cell?_of_block (a := ⟨b, o + i * k + j, none⟩) (hk b hb)).trans (h2 j x hx), h3.stay hk fun _ h => h⟩⟩
theorem Lies.row_at {w : World} {D : Nat → Prop} {k : Nat} {α : Type} {f : α → List Dat} (hk : ∀ a, (f a).length = k) {qs : List α} {v : Value} (h : Lies w D (.row k qs.length (qs.flatMap f)) v) :
    ∃ p c, v = .slice p qs.length c ∧ RowD w D k p f qs := by
  generalize hn : qs.length = n at h
  generalize hd : qs.flatMap f = ds at h
  cases h with
  | none k p c => exact ⟨p, c, rfl, fun h => by omega⟩
  | row k n b o c ds X hn0 _ hl hb hc hx =>
    refine ⟨_, c, rfl, fun _ => ⟨b, o, rfl, hb, fun i a ha => ?_⟩⟩
    have hi : i < qs.length := by
      rcases Nat.lt_or_ge i qs.length with h | h
      · exact h
      · rw [List.getElem?_eq_none h] at ha; cases ha
    have hik : i * k + k ≤ ds.length := by rw [hl, ← Nat.succ_mul]; exact Nat.mul_le_mul_right _ (by omega)
    have hp := flat_part hk qs i a ha
    rw [hd] at hp
    refine ⟨(List.range k).map fun j => X (i * k + j), by simp, fun j x hj => ?_, ?_⟩
    · rw [List.getElem?_map] at hj
      have hjk : j < k := by
        rcases Nat.lt_or_ge j k with h | h
        · exact h
        · rw [List.getElem?_eq_none (by simpa using h)] at hj; cases hj
      rw [List.getElem?_range hjk] at hj
      rw [Nat.add_assoc, hc (i * k + j) (by omega)]
      simpa using hj
    · rw [← hp]
      refine ⟨by simp; omega, fun j d x a b => ?_⟩
      rw [List.getElem?_take] at a
      split at a
      · rename_i hjk
        rw [List.getElem?_map, List.getElem?_range hjk] at b
        rw [List.getElem?_drop] at a
        obtain rfl : X (i * k + j) = x := by simpa using b
        exact hx _ d a
      · cases a
def Gr (w : World) (D : Nat → Prop) (base : Nat) (e : TypeId) (k : Nat) (v : Value) (n : Nat) (ds : List Dat) : Prop := ∃ xs, w.ownsRow base e k v n xs ∧ Fits w D ds xs
theorem Gr.nil (w : World) (D : Nat → Prop) (base : Nat) (e : TypeId) (k : Nat) : Gr w D base e k (.slice none 0 0) 0 [] := ⟨[], World.ownsRow_nil _ _ _ _, Fits.nil _ _⟩
theorem ownsRow.stay {w w' : World} {base : Nat} {e : TypeId} {k : Nat} {v : Value} {n : Nat} {xs : List Value} (h : w.ownsRow base e k v n xs) (hv : ∀ g, v.ownBlock = some g → w'.heap[g]? = w.heap[g]?) : w'.ownsRow base e k v n xs := by
  obtain ⟨h1, h2⟩ := h
  refine ⟨h1, ?_⟩
  rcases h2 with h2 | ⟨g, cap, cur, rfl, hg, hh, hr⟩
  · exact .inl h2
  · exact .inr ⟨g, cap, cur, rfl, hg, (hv g rfl).trans hh, hr⟩
theorem Gr.stay {w w' : World} {D D' : Nat → Prop} {base : Nat} {e : TypeId} {k : Nat} {v : Value} {n : Nat} {ds : List Dat} (h : Gr w D base e k v n ds) (hv : ∀ g, v.ownBlock = some g → w'.heap[g]? = w.heap[g]?) (hk : Keeps D w w') (hD : ∀ g, D g → D' g) : Gr w' D' base e k v n ds := by
  obtain ⟨xs, h1, h2⟩ := h
  exact ⟨xs, ownsRow.stay h1 hv, h2.stay hk hD⟩
theorem Gr.below {w w' : World} {D : Nat → Prop} {base : Nat} {e : TypeId} {k : Nat} {v : Value} {n : Nat} {ds : List Dat} (h : Gr w D base e k v n ds) (hb : Below w.heap.size w w') (hD : ∀ g, D g → g < w.heap.size) : Gr w' D base e k v n ds := by
  obtain ⟨xs, h1, h2⟩ := h
  exact ⟨xs, ownsRow.stay h1 fun g hg => hb.block g (h1.lt g hg).2, h2.stay (.of_below hb hD) fun _ h => h⟩
theorem Gr.lies {w : World} {D D' : Nat → Prop} {base : Nat} {e : TypeId} {k : Nat} {v : Value} {n : Nat} {ds : List Dat} (h : Gr w D base e k v n ds) (hD : ∀ g, D g → D' g) (hv : ∀ g, v.ownBlock = some g → D' g) : Lies w D' (.row k n ds) v := by
  obtain ⟨xs, h1, h2⟩ := h
  have hl := h1.1
  rcases h1.2 with ⟨rfl, h0⟩ | ⟨g, cap, cur, rfl, hg, hh, hnc, hm, hcs, ht⟩
  · subst h0
    obtain rfl : ds = [] := List.eq_nil_of_length_eq_zero (by rw [h2.1, hl]; simp)
    exact .none _ _ _
  · rcases Nat.eq_zero_or_pos n with h0 | h0
    · subst h0
      obtain rfl : ds = [] := List.eq_nil_of_length_eq_zero (by rw [h2.1, hl]; simp)
      exact .none _ _ _
    · refine .row k n g 0 cap ds (fun j => (cur[j]?).getD default) h0 hnc (by rw [h2.1, hl]) (hv g rfl) (fun j hj => ?_) fun j d hd => ?_
      · rw [h2.1, hl] at hj
        rw [Nat.zero_add, cell_of_row w g j cur e (0, 0) hh]
        have : n * k ≤ cur.size := by rw [hcs]; exact Nat.mul_le_mul_right _ hnc
        rw [Array.getElem?_eq_getElem (by omega)]
        rfl
      · have hj : j < xs.length := by
          rw [← h2.1]
          rcases Nat.lt_or_ge j ds.length with h | h
          · exact h
          · rw [List.getElem?_eq_none h] at hd; cases hd
        have hx : xs[j]? = cur[j]? := by
          rw [← ht, List.getElem?_take, if_pos (by rw [← hl]; exact hj)]
          simp
        have hx2 := List.getElem?_eq_getElem hj
        rw [hx] at hx2
        show Lies w D' d ((cur[j]?).getD default)
        rw [hx2]
        exact (h2.2 j d _ hd (by rw [hx]; exact hx2)).stay (Keeps.refl _ _) hD
theorem Gr.more {w w' : World} {D : Nat → Prop} {base : Nat} {e : TypeId} {k : Nat} {v' : Value} {n m : Nat} {ds es : List Dat} {xs ys : List Value} (hf : Fits w D ds xs) (hown : w'.ownsRow base e k v' (n + m) (xs ++ ys)) (hk : Keeps D w w') (hy : Fits w D es ys) : Gr w' D base e k v' (n + m) (ds ++ es) :=
  ⟨_, hown, (hf.append hy).stay hk fun _ h => h⟩
end Go.Proofs.YtagoikglbifhmaaGreatDoor
