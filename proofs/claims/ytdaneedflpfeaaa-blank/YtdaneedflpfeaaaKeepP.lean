import Derived.Test.YtdaneedflpfeaaaKeepO
namespace Go.Proofs.Ytdaneedflpfeaaa
set_option maxRecDepth 100000
open Go.RowKit

theorem pfx_cut {s : ByteArray} {m : Nat} (hm : m < s.size) (h : bt s m = 125) : Pfx s (s.extract 0 m) m (-1) := by
  have hz : (s.extract 0 m).size = m := by rw [ByteArray.size_extract]; omega
  refine ⟨hm, by omega, ?_, h, bt_out (by omega), .inr ⟨rfl, hz⟩⟩
  rw [ext_mkK]
  show _ = (((s.data.toList.drop 0).take (m - 0)).toArray.toList).take m
  rw [List.toList_toArray, List.drop_zero, Nat.sub_zero, List.take_take, Nat.min_self]
/-- The tokens that end no later than m. -/
inductive Chn (s : ByteArray) (m : Nat) : Nat → List Tok → Nat → Prop where
  | nil (i : Nat) : Chn s m i [] i
  | cons {i i' : Nat} {A : List Tok} (h1 : aheadE s i < m) (h2 : aheadE s i < tokenE s (aheadE s i)) (h3 : tokenE s (aheadE s i) ≤ m) (h4 : Chn s m (tokenE s (aheadE s i)) A i') :
      Chn s m i (⟨kindB (s.extract (aheadE s i) (tokenE s (aheadE s i))), s.extract i (tokenE s (aheadE s i)), aheadE s i⟩ :: A) i'
theorem chn_ex {s : ByteArray} {m : Nat} (hm : m < s.size) (h : bt s m = 125) : ∀ (n i : Nat), m - i ≤ n → i ≤ m → (∃ t ∈ scanL s i, t.kind = kEnd) → ∃ A i', Chn s m i A i' ∧ i' ≤ m ∧ m ≤ aheadE s i' ∧ scanL s i = A ++ scanL s i' := by
  have hP := pfx_cut hm h
  intro n
  induction n with
  | zero =>
    intro i hn hi _
    have : i = m := by omega
    subst this
    exact ⟨[], i, .nil i, Nat.le_refl _, (aheadE_bd s i (by omega)).1, rfl⟩
  | succ n ih =>
    intro i hn hi hE
    have hb := aheadE_bd s i (by omega)
    by_cases hp : m ≤ aheadE s i
    · exact ⟨[], i, .nil i, hi, hp, rfl⟩
    have hpm : aheadE s i < m := by omega
    by_cases ht : aheadE s i < tokenE s (aheadE s i)
    · have htk := (hP.token hpm (fun q => by have := q.1; omega)).1
      rw [scanL_go (by omega) rfl rfl ht] at hE
      obtain ⟨x, hx, hk⟩ := hE
      have hx' : x ∈ scanL s (tokenE s (aheadE s i)) := by
        rcases List.mem_cons.1 hx with rfl | q
        · exact absurd hk (kindB_end _)
        · exact q
      obtain ⟨A, i', c1, c2, c3, c4⟩ := ih _ (by omega) htk ⟨x, hx', hk⟩
      exact ⟨_, i', .cons hpm ht htk c1, c2, c3, by rw [scanL_go (by omega) rfl rfl ht, c4]; rfl⟩
    · rw [scanL_stop rfl ht, if_pos (by omega)] at hE
      obtain ⟨x, hx, hk⟩ := hE
      simp at hx
      subst hx
      exact absurd (show kNone = kEnd from hk) (by decide)
theorem no_open {s : ByteArray} {p : Nat} (h : p < tokenE s p) : pairB s p 47 42 = false := by
  cases q : pairB s p 47 42 with
  | false => rfl
  | true =>
    exfalso
    have hb : bt s p = 47 := by unfold pairB at q; simp at q; exact q.1
    unfold tokenE signE at h
    rw [hb, q] at h
    split at h
    · omega
    rw [if_neg (by decide), if_neg (by decide)] at h
    simp at h
theorem chn_t {s t : ByteArray} {m : Nat} {c : Int} (h : Pfx s t m c) {i i' : Nat} {A : List Tok} (hc : Chn s m i A i') (hi : i ≤ m) (hA : c = 47 → ∀ x ∈ A, x.place + 1 = m → bt s x.place ≠ 47) : scanL t i = A ++ scanL t i' := by
  have hm := h.ms
  have hmt := h.mt
  induction hc with
  | nil i => rfl
  | @cons i i' A h1 h2 h3 h4 ih =>
    have hb := aheadE_bd s i (by omega)
    have n2 : ¬ (c = 47 ∧ aheadE s i + 1 = m ∧ bt s (aheadE s i) = 47) := fun q => hA q.1 _ (List.mem_cons_self ..) q.2.1 q.2.2
    have ea := (h.ahead _ i (Nat.le_refl _) hi (by omega)).1 h1 n2 (no_open h2)
    have et := (h.token h1 n2).2
    rw [scanL_go (by omega) ea et h2, h.ext h3, h.ext h3, ih h3 (fun q x hx => hA q x (List.mem_cons_of_mem _ hx))]
    rfl
theorem chn_last {s : ByteArray} {m i i' : Nat} {A : List Tok} (hm : m < s.size) (hc : Chn s m i A i') : ∀ x ∈ A, x.place + 1 = m → A.getLast? = some x ∧ x.kind = kindB (s.extract (m - 1) m) := by
  induction hc with
  | nil i => intro x hx; cases hx
  | @cons i i' A h1 h2 h3 h4 ih =>
    intro x hx hp
    rcases List.mem_cons.1 hx with rfl | hx
    · simp only at hp
      have e : tokenE s (aheadE s i) = m := by omega
      have hA : A = [] := by
        rw [e] at h4
        cases h4 with
        | nil => rfl
        | cons g1 => have := (aheadE_bd s m (by omega)).1; omega
      subst hA
      refine ⟨rfl, ?_⟩
      simp only
      rw [e, show aheadE s i = m - 1 by omega]
    · obtain ⟨q1, q2⟩ := ih x hx hp
      refine ⟨?_, q2⟩
      cases A with
      | nil => cases hx
      | cons y A => rw [List.getLast?_cons_cons]; exact q1
/-- A comment that runs on to the end. -/
theorem ahead_over {s t : ByteArray} {m : Nat} (h : Pfx s t m (-1)) (hs : s.size = m + 1) : ∀ (n i : Nat), m - i ≤ n → i ≤ m → m < aheadE s i → aheadE t i = m := by
  have hm := h.ms
  have hmt := h.mt
  have hts : t.size = m := by
    rcases h.hc with ⟨q, _⟩ | ⟨_, q⟩
    · omega
    · exact q
  have pm : pieceE s m = m := by
    unfold pieceE pairB
    rw [h.last, if_neg (by omega), if_neg (by decide), if_neg (by simp), if_neg (by simp)]
  have am : aheadE t m = m := aheadE_stop (by rw [pieceE_out (by omega)]; omega)
  intro n
  induction n with
  | zero =>
    intro i hn hi ha
    have : i = m := by omega
    subst this
    exact am
  | succ n ih =>
    intro i hn hi ha
    have hq : i < pieceE s i := by
      rcases Nat.lt_or_ge i (pieceE s i) with q | q
      · exact q
      · rw [aheadE_stop (by omega)] at ha; omega
    have him : i < m := by
      rcases Nat.lt_or_ge i m with q | q
      · exact q
      · have : i = m := by omega
        subst this
        omega
    rw [aheadE_go hq] at ha
    rcases Nat.lt_or_ge m (pieceE s i) with hov | hle
    · -- the comment that passes m
      have hpc : pieceE t i = m := by
        unfold pieceE commentE at hov ⊢
        rw [if_neg (show ¬ s.size ≤ i by omega)] at hov
        rw [if_neg (show ¬ t.size ≤ i by omega), h.byt him]
        by_cases hb : blankB (bt s i) = true
        · rw [if_pos hb] at hov; omega
        rw [if_neg hb] at hov ⊢
        have hj1 : i + 1 ≠ m := by
          intro e
          have p1 : pairB s i 47 47 = false := by unfold pairB; rw [e, h.last]; simp
          have p2 : pairB s i 47 42 = false := by unfold pairB; rw [e, h.last]; simp
          rw [p1, p2] at hov
          simp at hov
          omega
        obtain ⟨e1, e2⟩ := h.pair him (fun q => hj1 q.2.1)
        rw [e1, e2]
        by_cases hp : pairB s i 47 47 = true
        · rw [if_pos hp] at hov ⊢
          -- no line feed ahead of m
          have key : ∀ (k j : Nat), m - j ≤ k → j ≤ m → m < runE noLf s j → runE noLf t j = m := by
            intro k
            induction k with
            | zero => intro j g1 g2 _; have : j = m := by omega
                      subst this; exact runE_no (fun q => by omega)
            | succ k ihk =>
              intro j g1 g2 g3
              by_cases e : j = m
              · subst e; exact runE_no (fun q => by omega)
              cases hf : noLf (bt s j) with
              | true =>
                rw [runE_yes (by omega) hf] at g3
                rw [runE_yes (s := t) (by omega) (by rw [h.byt (by omega)]; exact hf)]
                exact ihk (j + 1) (by omega) (by omega) g3
              | false => rw [runE_no (fun _ => hf)] at g3; omega
          exact key _ i (Nat.le_refl _) (by omega) hov
        rw [if_neg hp] at hov ⊢
        by_cases hq2 : pairB s i 47 42 = true
        · rw [if_pos hq2] at hov
          cases hcl : closeE s (i + 2) with
          | none => rw [hcl] at hov; simp at hov; omega
          | some e =>
            rw [hcl] at hov
            simp only [Option.getD_some] at hov
            have b1 := closeE_some hcl
            have b2 := closeE_pair hcl
            have : e = m + 1 := by omega
            subst this
            unfold pairB at b2
            rw [show m + 1 - 2 + 1 = m by omega, h.last] at b2
            simp at b2
        · rw [if_neg hq2] at hov; omega
      rw [aheadE_go (s := t) (by rw [hpc]; exact him), hpc]
      exact am
    · have hpc := h.piece him hq hle
      rw [aheadE_go (s := t) (by rw [hpc]; exact hq), hpc]
      exact ih _ (by omega) hle ha

end Go.Proofs.Ytdaneedflpfeaaa
