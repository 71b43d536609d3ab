/- Part 34 of what the last text of this claim is proved by: walks over the program, and the math behind them. Conditions: as each theorem says. -/
import Derived.Test.YtekeanikgcpijaaGreatDoorSL33
namespace Go.Proofs.YtekeanikgcpijaaGreatDoor
open Go Go.RowKit
theorem lfirst_name {l : List UInt8} (h0 : 0 < l.length) (h1 : (lfirst l).2.2 = 0) (hk : (lfirst l).1.k = 1) : NmOk 40 (lfirst l).1.t := by
  unfold lfirst at h1 hk ⊢
  split at h1
  · rename_i h
    rw [if_pos h] at hk
    cases hk
  · rename_i hn1
    rw [if_neg hn1] at hk ⊢
    split at h1
    · rename_i h
      rw [if_pos h] at hk
      cases hk
    · rename_i hn2
      rw [if_neg hn2] at hk ⊢
      dsimp only at hk ⊢
      have hk1 : (lcut l).1 = 1 := by
        unfold ltoken at hk
        split at hk
        · cases hk
        split at hk
        · assumption
        split at hk
        · split at hk <;> cases hk
        split at hk
        · split at hk <;> cases hk
        · exact hk
      rw [hk1] at hn2 ⊢
      have ht : ltoken 1 (l.take (lcut l).2.1) = if 40 < (l.take (lcut l).2.1).length then (⟨0, [], 0⟩, 3) else (⟨1, l.take (lcut l).2.1, 0⟩, 0) := rfl
      rw [ht] at hn2 ⊢
      split at hn2
      · exact (hn2 (by decide)).elim
      · rename_i h40
        rw [if_neg h40]
        have hcut : lxLet (l.headD 0) = true ∧ (lcut l).2.1 = lspan lxIn l := by
          unfold lcut at hk1 ⊢
          split at hk1
          · cases hk1
          rename_i a1
          rw [if_neg a1]
          split at hk1
          · cases hk1
          rename_i a2
          rw [if_neg a2]
          split at hk1
          · cases hk1
          rename_i a3
          rw [if_neg a3]
          split at hk1
          · rename_i a4
            rw [if_pos a4]
            exact ⟨a4, rfl⟩
          split at hk1
          · cases hk1
          split at hk1
          · cases hk1
          split at hk1 <;> cases hk1
        obtain ⟨hl, hs⟩ := hcut
        rw [hs] at h40 ⊢
        show NmOk 40 (l.take (lspan lxIn l))
        have hpos := lspan_first (p := lxIn) h0 (by unfold lxIn; rw [hl]; rfl)
        refine ⟨fun e => ?_, by omega, fun h46 => ?_⟩
        · have := congrArg List.length e
          rw [List.length_take] at this
          simp only [List.length_nil] at this
          omega
        · obtain ⟨j, hj⟩ := List.getElem?_of_mem h46
          rw [List.getElem?_take] at hj
          split at hj
          · rename_i hjl
            have := lspan_all hjl hj
            revert this
            decide
          · cases hj
theorem Lex.names {l : List UInt8} {i : Nat} {ts : List (Tok × Nat)} {e ea : Nat} (h : Lex l i ts e ea) : i ≤ l.length → ∀ x ∈ ts, x.1.k = 1 → NmOk 40 x.1.t := by
  induction h with
  | done h => intro hi x hx; cases hx
  | bad h1 h2 => intro hi x hx; cases hx
  | @gap i ts e ea h1 h2 h3 h ih =>
    intro hi
    have h0 : 0 < (l.drop i).length := by rw [List.length_drop]; omega
    have hs := lfirst_size h0 h2
    rw [List.length_drop] at hs
    exact ih (by omega)
  | @tok i ts e ea h1 h2 h3 h ih =>
    intro hi
    have h0 : 0 < (l.drop i).length := by rw [List.length_drop]; omega
    have hs := lfirst_size h0 h2
    rw [List.length_drop] at hs
    intro x hx hk
    rcases List.mem_cons.1 hx with rfl | hx
    · exact lfirst_name h0 h2 hk
    · exact ih (by omega) x hx hk
def Words (N : Nat) (l : List Tk) : Prop := ∀ x ∈ l, x.1.k = 1 → NmOk N x.1.t
theorem tksOf_words {s : List UInt8} {ts : List (Tok × Nat)} {e ea : Nat} (h : Lex s 0 ts e ea) : Words 40 (tksOf s ts) := fun x hx hk => by
  obtain ⟨y, hy, rfl⟩ := List.mem_map.1 hx
  exact h.names (Nat.zero_le _) y hy hk
theorem sName_nm {N : Nat} {l : List Tk} (hw : Words N l) {p q : Nat} {x : Tk} (h : sName l p = .ok (x, q)) : NmOk N x.1.t := by
  obtain ⟨_, _, h1, h2⟩ := sName_ok h
  exact hw x (List.mem_of_getElem? h1) h2
theorem sHead_nm {N : Nat} {l : List Tk} (hw : Words N l) {p q : Nat} {x : Tk} (h : sHead l p = .ok (x, q)) : NmOk N x.1.t := by
  unfold sHead at h
  split at h
  · cases h
  rename_i y r hx
  split at h
  · cases h
  injection h with h
  injection h with h1 h2
  subst h1
  exact sName_nm hw hx
theorem sEnum_nm {N : Nat} {l : List Tk} (hw : Words N l) {p q : Nat} {x : Enm} (h : sEnum l p = .ok (x, q)) : NmOk N x.name := by
  unfold sEnum at h
  split at h
  · cases h
  rename_i y r hx
  split at h
  · cases h
  injection h with h
  injection h with h1 h2
  subst h1
  exact sHead_nm hw hx
def cntA (e : List Enm) (m : List Msg) : Nat := e.length + (tyMs [] m).length
theorem tyAll_len (a : List UInt8) (e : List Enm) (m : List Msg) : (tyAll a e m).length = cntA e m := by
  unfold tyAll cntA
  rw [List.length_append, List.length_map, tyMs_len a [] m]
theorem tyM_cnt (a : List UInt8) (x : Msg) : (tyM a x).length = 1 + cntA x.enums x.msgs := by
  rw [tyM_md, List.length_cons, tyAll_len]
  omega
theorem cntA_msg (e : List Enm) (m : List Msg) (k : Msg) : cntA e (m ++ [k]) = cntA e m + (tyM [] k).length := by
  unfold cntA
  rw [tyMs_append, tyMs_one, List.length_append]
  omega
theorem cntA_enm (e : List Enm) (m : List Msg) (k : Enm) : cntA (e ++ [k]) m = cntA e m + 1 := by
  unfold cntA
  rw [List.length_append, List.length_singleton]
  omega
structure PartOk (N d b : Nat) (m : Msg) (p : Nat) : Prop where
  nm : NmOk N m.name
  en : ∀ x ∈ m.enums, NmOk N x.name
  ms : ∀ k ∈ m.msgs, MOk N d k
  cnt : cntA m.enums m.msgs + b ≤ p
theorem sPart_nm {N d b : Nat} {l : List Tk} (hw : Words N l) {sub : Nat → Ans8 (Msg × Nat)} (hst : Steps l sub) (hsub : ∀ p x q, sub p = .ok (x, q) → MOk N d x ∧ (tyM [] x).length + p ≤ q) {m m' : Msg} {p q : Nat} (hm : PartOk N d b m p) (h : sPart l sub m p = .ok (m', q)) : PartOk N d b m' q := by
  obtain ⟨nm, fs, os, ms, es, rs, ns, ln, cl⟩ := m
  obtain ⟨a1, a2, a3, a4⟩ := hm
  have hpq := sPart_ok hst h
  simp only [Msg.name, Msg.msgs, Msg.enums] at a1 a2 a3 a4
  simp only [sPart] at h
  split at h
  · split at h
    · cases h
    rename_i k r hr
    obtain ⟨h1, h2⟩ := hsub _ _ _ hr
    injection h with h
    injection h with h4 h5
    subst h4 h5
    refine ⟨a1, a2, fun k' hk => ?_, ?_⟩
    · rcases List.mem_append.1 hk with hk | hk
      · exact a3 k' hk
      · rw [List.mem_singleton.1 hk]
        exact h1
    · show cntA es (ms ++ [k]) + b ≤ _
      rw [cntA_msg]
      omega
  split at h
  · split at h
    · cases h
    rename_i k r hr
    have h1 := sEnum_nm hw hr
    injection h with h
    injection h with h4 h5
    subst h4 h5
    refine ⟨a1, fun k' hk => ?_, a3, ?_⟩
    · rcases List.mem_append.1 hk with hk | hk
      · exact a2 k' hk
      · rw [List.mem_singleton.1 hk]
        exact h1
    · show cntA (es ++ [k]) ms + b ≤ _
      rw [cntA_enm]
      omega
  split at h
  · split at h
    · cases h
    rename_i k r hr
    injection h with h
    injection h with h4 h5
    subst h4 h5
    exact ⟨a1, a2, a3, by show cntA es ms + b ≤ _; omega⟩
  split at h
  · split at h
    · cases h
    rename_i k r hr
    injection h with h
    injection h with h4 h5
    subst h4 h5
    exact ⟨a1, a2, a3, by show cntA es ms + b ≤ _; omega⟩
  split at h
  · cases h
  rename_i k r hr
  injection h with h
  injection h with h4 h5
  subst h4 h5
  exact ⟨a1, a2, a3, by show cntA es ms + b ≤ _; omega⟩
theorem sBody_nm {N d b : Nat} {l : List Tk} (hw : Words N l) {sub : Nat → Ans8 (Msg × Nat)} (hst : Steps l sub) (hsub : ∀ p x q, sub p = .ok (x, q) → MOk N d x ∧ (tyM [] x).length + p ≤ q) : ∀ (n : Nat) (m : Msg) (p : Nat) {m' : Msg} {q : Nat}, p ≤ l.length → PartOk N d b m p → sBody l sub n m p = .ok (m', q) → PartOk N d b m' q
  | 0, m, p, m', q, hp, hm, h => by cases h
  | n + 1, m, p, m', q, hp, hm, h => by
    have hs := semis_le hp
    have hm' : PartOk N d b m (semis l p) := ⟨hm.nm, hm.en, hm.ms, by have := hm.cnt; omega⟩
    simp only [sBody] at h
    split at h
    · rename_i h1
      injection h with h
      injection h with h2 h3
      subst h2 h3
      exact ⟨hm'.nm, hm'.en, hm'.ms, by have := hm'.cnt; omega⟩
    split at h
    · cases h
    rename_i v r hv
    have h1 := sPart_ok hst hv
    exact sBody_nm hw hst hsub n v r (by omega) (sPart_nm hw hst hsub hm' hv) h
theorem sMessage_nm {N : Nat} {l : List Tk} (hw : Words N l) : ∀ d p x q, sMessage l d p = .ok (x, q) → MOk N d x ∧ (tyM [] x).length + p ≤ q
  | 0, p, x, q, h => by
    unfold sMessage at h
    split at h <;> cases h
  | d + 1, p, x, q, h => by
    have h0 := sMessage_ok l (d + 1) p x q h
    unfold sMessage at h
    split at h
    · cases h
    rename_i y r hx
    split at h
    · cases h
    rename_i s hs
    have h1 := sName_ok hx
    have h2 := sWant_ok hs
    have h3 := sName_nm hw hx
    have h4 : PartOk N d s (.mk y.1.t [] [] [] [] [] [] y.2.1 y.2.2) s := ⟨h3, fun x hx => (by cases hx), fun k hk => (by cases hk), by show 0 + 0 + s ≤ s; omega⟩
    have h5 := sBody_nm hw (sMessage_ok l d) (sMessage_nm hw d) _ _ _ (by omega) h4 h
    refine ⟨?_, ?_⟩
    · have h6 := h5.nm
      have h7 := h5.en
      have h8 := h5.ms
      cases x
      exact ⟨h6, h7, h8⟩
    · rw [tyM_cnt]
      have := h5.cnt
      omega
structure FilOk (N b : Nat) (f : Fil) (p : Nat) : Prop where
  en : ∀ x ∈ f.enums, NmOk N x.name
  ms : ∀ k ∈ f.msgs, MOk N 8 k
  cnt : cntA f.enums f.msgs + b ≤ p
theorem sParts_nm {N b : Nat} {l : List Tk} (hw : Words N l) : ∀ (n : Nat) (f : Fil) (p : Nat) {g : Fil}, FilOk N b f p → p ≤ l.length → sParts l n f p = .ok g → FilOk N b g l.length ∧ g.package = f.package
  | 0, f, p, g, hf, hp, h => by cases h
  | n + 1, f, p, g, hf, hp, h => by
    obtain ⟨f1, f2, f3⟩ := hf
    rw [sParts] at h
    split at h
    · rename_i hlt
      split at h
      · exact sParts_nm hw n f (p + 1) ⟨f1, f2, by omega⟩ (by omega) h
      split at h
      · split at h
        · cases h
        rename_i m q hm
        obtain ⟨h3, h3c⟩ := sMessage_nm hw _ _ _ _ hm
        have h4 := sMessage_ok l _ _ _ _ hm
        refine sParts_nm hw n { f with msgs := f.msgs ++ [m] } q ⟨f1, fun k hk => ?_, ?_⟩ h4.2 h
        · rcases List.mem_append.1 hk with hk | hk
          · exact f2 k hk
          · rw [List.mem_singleton.1 hk]
            exact h3
        · dsimp only
          rw [cntA_msg]
          omega
      split at h
      · split at h
        · cases h
        rename_i m q hm
        have h3 := sEnum_nm hw hm
        have h4 := sEnum_ok hm
        refine sParts_nm hw n { f with enums := f.enums ++ [m] } q ⟨fun k hk => ?_, f2, ?_⟩ h4.2 h
        · rcases List.mem_append.1 hk with hk | hk
          · exact f1 k hk
          · rw [List.mem_singleton.1 hk]
            exact h3
        · dsimp only
          rw [cntA_enm]
          omega
      · cases h
    · injection h with h
      subst h
      exact ⟨⟨f1, f2, by omega⟩, rfl⟩
theorem nm_head {N : Nat} {t : List UInt8} (h : NmOk N t) : t.head? ≠ some 46 := fun e => by
  cases t with
  | nil => cases e
  | cons c r =>
    obtain rfl := Option.some.inj e
    exact h.2.2 List.mem_cons_self
theorem head_append {a b : List UInt8} (h : a ≠ []) : (a ++ b).head? = a.head? := by
  cases a with
  | nil => exact absurd rfl h
  | cons c r => rfl
theorem sDots_nm {N : Nat} {l : List Tk} (hw : Words N l) : ∀ (n : Nat) (s : List UInt8) (p : Nat) {t : List UInt8} {q : Nat}, sDots l n s p = .ok (t, q) → s.head? ≠ some 46 → t.head? ≠ some 46 ∧ t.length ≤ s.length + n * (N + 1)
  | 0, s, p, t, q, h, hs => by cases h
  | n + 1, s, p, t, q, h, hs => by
    unfold sDots at h
    split at h
    · cases h
    rename_i x r hx
    have hn := sName_nm hw hx
    have hh : (s ++ x.1.t).head? ≠ some 46 := by
      by_cases e : s = []
      · rw [e]
        exact nm_head hn
      · rw [head_append e]
        exact hs
    have hne : s ++ x.1.t ≠ [] := fun e => hn.1 (List.append_eq_nil_iff.1 e).2
    have hl := hn.2.1
    have hmul : (n + 1) * (N + 1) = n * (N + 1) + (N + 1) := Nat.succ_mul _ _
    split at h
    · have := sDots_nm hw n _ _ h (by rw [head_append hne]; exact hh)
      refine ⟨this.1, ?_⟩
      have h2 := this.2
      simp only [List.length_append, List.length_singleton] at h2
      omega
    · injection h with h
      injection h with h1 h2
      subst h1
      refine ⟨hh, ?_⟩
      rw [List.length_append]
      omega
theorem sFile_nm {N : Nat} {l : List Tk} (hN : N ≤ 1000) (hl : l.length ≤ 100000) (hw : Words N l) {f : Fil} (h : sFile l = .ok f) : FOk N f ∧ (tyFile f).length ≤ 100000 := by
  have hfine := sFile_fine hl h
  rw [sFile_syn] at h
  split at h
  · cases h
  rename_i q hq
  have hq := sSyn_le hq
  split at h
  · cases h
  rename_i pk u hpk
  have hk : u ≤ l.length ∧ pk.head? ≠ some 46 ∧ pk.length ≤ 100000000000 := by
    unfold sPackage at hpk
    split at hpk
    · split at hpk
      · cases hpk
      rename_i hd
      have h1 := sDotted_ok hd
      unfold sDotted at hd
      rw [Bool.false_and, if_neg (by decide)] at hd
      have h2 := sDots_nm hw _ _ _ hd (by decide)
      split at hpk
      · cases hpk
      rename_i hw'
      have := sWant_ok hw'
      injection hpk with hpk
      injection hpk with h3 h4
      subst h3 h4
      refine ⟨by omega, h2.1, ?_⟩
      have h5 := h2.2
      have h6 : (l.length + 1) * (N + 1) ≤ 100001 * 1001 := Nat.mul_le_mul (by omega) (by omega)
      simp only [List.length_nil] at h5
      omega
    · injection hpk with hpk
      injection hpk with h1 h2
      subst h1 h2
      exact ⟨hq, by decide, by decide⟩
  obtain ⟨h1, h2⟩ := sParts_nm (b := 0) hw _ ⟨pk, [], []⟩ u ⟨fun x hx => (by cases hx), fun x hx => (by cases hx), by show 0 + 0 + 0 ≤ u; omega⟩ hk.1 h
  refine ⟨⟨hfine, by rw [h2]; exact hk.2.2, by rw [h2]; exact hk.2.1, h1.en, h1.ms⟩, ?_⟩
  unfold tyFile
  rw [tyAll_len]
  have := h1.cnt
  omega
def FullOk (N : Nat) (t : List UInt8) : Prop := ∃ a n, a.head? ≠ some 46 ∧ NmOk N n ∧ t = aheadOf a ++ n
theorem full_head {a n : List UInt8} {N : Nat} (ha : a.head? ≠ some 46) (hn : NmOk N n) : (aheadOf a ++ n).head? ≠ some 46 := by
  by_cases e : a = []
  · rw [e]
    exact nm_head hn
  · rw [show aheadOf a = a ++ [46] from if_neg e, List.append_assoc, head_append e]
    exact ha
mutual
theorem tyM_full {N : Nat} : ∀ (d : Nat) (a : List UInt8) (m : Msg), a.head? ≠ some 46 → MOk N d m → ∀ x ∈ tyM (aheadOf a) m, FullOk N x.full
  | 0, a, m, ha, hm, x, hx => hm.elim
  | d + 1, a, .mk n f o m e r s l c, ha, hm, x, hx => by
    obtain ⟨h1, h2, h3⟩ := hm
    have hh := full_head ha h1
    have he := ahead_name (s := a) h1.1
    simp only [tyM, List.mem_cons, List.mem_append, List.mem_map] at hx
    rw [← he] at hx
    rcases hx with rfl | ⟨y, hy, rfl⟩ | hx
    · exact ⟨a, n, ha, h1, rfl⟩
    · exact ⟨aheadOf a ++ n, y.name, hh, h2 y hy, rfl⟩
    · exact tyMs_full d (aheadOf a ++ n) m hh h3 x hx
theorem tyMs_full {N : Nat} : ∀ (d : Nat) (a : List UInt8) (m : List Msg), a.head? ≠ some 46 → (∀ k ∈ m, MOk N d k) → ∀ x ∈ tyMs (aheadOf a) m, FullOk N x.full
  | d, a, [], ha, hm, x, hx => by cases hx
  | d, a, k :: m, ha, hm, x, hx => by
    simp only [tyMs, List.mem_append] at hx
    rcases hx with hx | hx
    · exact tyM_full d a k ha (hm k List.mem_cons_self) x hx
    · exact tyMs_full d a m ha (fun k' hk => hm k' (List.mem_cons_of_mem _ hk)) x hx
end
theorem tyFile_full {N : Nat} {f : Fil} (h : FOk N f) : ∀ x ∈ tyFile f, FullOk N x.full := fun x hx => by
  rcases List.mem_append.1 hx with hx | hx
  · obtain ⟨y, hy, rfl⟩ := List.mem_map.1 hx
    exact ⟨f.package, y.name, h.pk1, h.en y hy, rfl⟩
  · exact tyMs_full 8 f.package f.msgs h.pk1 h.ms x hx
theorem addAllT_mem : ∀ {xs L M : List Ty}, TbOk L → addAllT L xs = .ok M → ∀ t ∈ M, t ∈ L ∨ ∃ x ∈ xs, t.full = x.full
  | [], L, M, hL, h, t, ht => by
    cases h
    exact .inl ht
  | x :: xs, L, M, hL, h, t, ht => by
    rw [addAllT_cons] at h
    cases ha : addT L x with
    | error e => rw [ha] at h; cases h
    | ok K =>
      rw [ha] at h
      obtain ⟨hK, rfl, _, _⟩ := addT_ok hL ha
      rcases addAllT_mem hK h t ht with h1 | ⟨y, hy, h1⟩
      · rcases List.mem_append.1 h1 with h1 | h1
        · exact .inl h1
        · rw [List.mem_singleton.1 h1]
          exact .inr ⟨x, List.mem_cons_self, rfl⟩
      · exact .inr ⟨y, List.mem_cons_of_mem _ hy, h1⟩
theorem table_full {N : Nat} {f : Fil} (h : FOk N f) {L : List Ty} (ht : table f = .ok L) : ∀ t ∈ L, FullOk N t.full := fun t htm => by
  rcases addAllT_mem (L := []) ⟨List.nodup_nil, by simp⟩ ht t htm with h1 | ⟨x, hx, h1⟩
  · cases h1
  · rw [h1]
    exact tyFile_full h x hx
end Go.Proofs.YtekeanikgcpijaaGreatDoor
