import Derived.Test.YtdaneedflpfeaaaKeepN
namespace Go.Proofs.Ytdaneedflpfeaaa
set_option maxRecDepth 100000
open Go.RowKit

/-! ## Texts that are alike up to a place -/
structure Pfx (s t : ByteArray) (m : Nat) (c : Int) : Prop where
  ms : m < s.size
  mt : m ≤ t.size
  same : s.data.toList.take m = t.data.toList.take m
  last : bt s m = 125
  next : bt t m = c
  hc : (c = 47 ∧ m < t.size) ∨ (c = -1 ∧ t.size = m)
theorem bt_list (s : ByteArray) (j : Nat) : bt s j = match s.data.toList[j]? with | some c => (c.toNat : Int) | none => -1 := by
  by_cases h : j < s.size
  · rw [bt_in h, List.getElem?_eq_getElem (show j < s.data.toList.length from h)]; rfl
  · rw [bt_out (by omega), List.getElem?_eq_none (show s.data.toList.length ≤ j by show s.size ≤ j; omega)]
theorem Pfx.byt {s t : ByteArray} {m : Nat} {c : Int} (h : Pfx s t m c) {j : Nat} (hj : j < m) : bt t j = bt s j := by
  rw [bt_list, bt_list]
  have e : (s.data.toList.take m)[j]? = (t.data.toList.take m)[j]? := by rw [h.same]
  rw [List.getElem?_take, List.getElem?_take, if_pos hj, if_pos hj] at e
  rw [e]
theorem Pfx.ext {s t : ByteArray} {m : Nat} {c : Int} (h : Pfx s t m c) {a b : Nat} (hb : b ≤ m) : t.extract a b = s.extract a b := by
  rw [ext_mkK, ext_mkK]
  have e : ∀ l : List UInt8, (l.drop a).take (b - a) = ((l.take m).take b).drop a := fun l => by
    rw [List.take_take, Nat.min_eq_left hb, List.drop_take]
  rw [e, e, h.same]
theorem runE_stop (f : Int → Bool) (s : ByteArray) (j : Nat) (h : runE f s j < s.size) : f (bt s (runE f s j)) = false := by
  induction j using runE.induct f s with
  | case1 j h1 ih =>
    rw [runE_yes h1.1 h1.2] at h ⊢
    exact ih h
  | case2 j h1 =>
    have e : runE f s j = j := by rw [runE, dif_neg h1]
    rw [e] at h ⊢
    cases hf : f (bt s j) with
    | false => rfl
    | true => exact absurd ⟨h, hf⟩ h1
theorem Pfx.run {s t : ByteArray} {m : Nat} {c : Int} (h : Pfx s t m c) (f : Int → Bool) (h1 : f 125 = false) (h2 : f 47 = false) : ∀ (n j : Nat), m - j ≤ n → j ≤ m → runE f s j ≤ m ∧ runE f t j = runE f s j := by
  have hm := h.ms
  have stop : runE f s m = m ∧ runE f t m = m := by
    refine ⟨runE_no (fun _ => by rw [h.last]; exact h1), runE_no (fun hlt => ?_)⟩
    rw [h.next]
    rcases h.hc with ⟨e, _⟩ | ⟨_, e⟩
    · rw [e]; exact h2
    · omega
  intro n
  induction n with
  | zero =>
    intro j hn hj
    have : j = m := by omega
    subst this
    rw [stop.1, stop.2]; exact ⟨Nat.le_refl _, rfl⟩
  | succ n ih =>
    intro j hn hj
    by_cases e : j = m
    · subst e
      rw [stop.1, stop.2]; exact ⟨Nat.le_refl _, rfl⟩
    have hjm : j < m := by omega
    have hmt := h.mt
    cases hf : f (bt s j) with
    | true =>
      rw [runE_yes (by omega) hf, runE_yes (s := t) (by omega) (by rw [h.byt hjm]; exact hf)]
      exact ih (j + 1) (by omega) (by omega)
    | false =>
      rw [runE_no (fun _ => hf), runE_no (s := t) (fun _ => by rw [h.byt hjm]; exact hf)]
      exact ⟨by omega, rfl⟩
theorem Pfx.lf {s t : ByteArray} {m : Nat} {c : Int} (h : Pfx s t m c) : ∀ (n j : Nat), m - j ≤ n → runE noLf s j < m → runE noLf t j = runE noLf s j := by
  have hm := h.ms
  have hmt := h.mt
  intro n
  induction n with
  | zero => intro j hn hr; have := runE_ge noLf s j; omega
  | succ n ih =>
    intro j hn hr
    have hj : j < m := by have := runE_ge noLf s j; omega
    cases hf : noLf (bt s j) with
    | true =>
      rw [runE_yes (by omega) hf] at hr ⊢
      rw [runE_yes (s := t) (by omega) (by rw [h.byt hj]; exact hf)]
      exact ih (j + 1) (by omega) hr
    | false => rw [runE_no (fun _ => hf), runE_no (s := t) (fun _ => by rw [h.byt hj]; exact hf)]
theorem closeE_pair {s : ByteArray} {i j : Nat} (h : closeE s i = some j) : pairB s (j - 2) 42 47 = true := by
  induction i using closeE.induct s with
  | case1 i h1 h2 =>
    rw [closeE, dif_pos h1, if_pos h2] at h
    cases h
    rw [Nat.add_sub_cancel]; exact h2
  | case2 i h1 h2 ih =>
    rw [closeE, dif_pos h1, if_neg h2] at h
    exact ih h
  | case3 i h1 => rw [closeE, dif_neg h1] at h; cases h
theorem Pfx.close {s t : ByteArray} {m : Nat} {c : Int} (h : Pfx s t m c) {e : Nat} (he : e ≤ m) : ∀ (n j : Nat), m - j ≤ n → closeE s j = some e → closeE t j = some e := by
  have hm := h.ms
  have hmt := h.mt
  intro n
  induction n with
  | zero => intro j hn hc; have := closeE_some hc; omega
  | succ n ih =>
    intro j hn hc
    have hb := closeE_some hc
    have hp : pairB t j 42 47 = pairB s j 42 47 := by unfold pairB; rw [h.byt (by omega), h.byt (by omega)]
    rw [closeE, dif_pos (by omega)] at hc ⊢
    rw [hp]
    split at hc
    · rename_i q; rw [if_pos q]; exact hc
    · rename_i q
      rw [if_neg q]
      exact ih (j + 1) (by omega) hc
/-- A pair that begins ahead of the place. -/
theorem Pfx.pair {s t : ByteArray} {m : Nat} {c : Int} (h : Pfx s t m c) {j : Nat} (hj : j < m) (hs : ¬ (c = 47 ∧ j + 1 = m ∧ bt s j = 47)) : pairB t j 47 47 = pairB s j 47 47 ∧ pairB t j 47 42 = pairB s j 47 42 := by
  unfold pairB
  rw [h.byt hj]
  by_cases e : j + 1 = m
  · rw [e, h.last, h.next]
    rcases h.hc with ⟨q, _⟩ | ⟨q, _⟩
    · have : bt s j ≠ 47 := fun r => hs ⟨q, e, r⟩
      rw [beq_eq_false_iff_ne.2 this]
      simp
    · rw [q]; simp
  · rw [h.byt (by omega)]; exact ⟨rfl, rfl⟩
/-- A blank or a comment that ends no later. -/
theorem Pfx.piece {s t : ByteArray} {m : Nat} {c : Int} (h : Pfx s t m c) {j : Nat} (hj : j < m) (h1 : j < pieceE s j) (h2 : pieceE s j ≤ m) : pieceE t j = pieceE s j := by
  have hm := h.ms
  have hmt := h.mt
  unfold pieceE commentE at h1 h2 ⊢
  rw [if_neg (show ¬ s.size ≤ j by omega)] at h1 h2
  rw [if_neg (show ¬ t.size ≤ j by omega), if_neg (show ¬ s.size ≤ j by omega), h.byt hj]
  by_cases hb : blankB (bt s j) = true
  · rw [if_pos hb, if_pos hb]
  rw [if_neg hb] at h1 h2
  rw [if_neg hb, if_neg hb]
  by_cases hj1 : j + 1 = m
  · have p1 : pairB s j 47 47 = false := by unfold pairB; rw [hj1, h.last]; simp
    have p2 : pairB s j 47 42 = false := by unfold pairB; rw [hj1, h.last]; simp
    rw [p1, p2] at h1
    simp at h1
  obtain ⟨e1, e2⟩ := h.pair hj (fun q => hj1 q.2.1)
  rw [e1, e2]
  by_cases hp : pairB s j 47 47 = true
  · rw [if_pos hp] at h1 h2
    rw [if_pos hp, if_pos hp]
    refine h.lf _ j (Nat.le_refl _) ?_
    rcases Nat.lt_or_ge (runE noLf s j) m with q | q
    · exact q
    · have e : runE noLf s j = m := by omega
      have := runE_stop noLf s j (by omega)
      rw [e, h.last] at this
      exact absurd this (by decide)
  rw [if_neg hp] at h1 h2
  rw [if_neg hp, if_neg hp]
  by_cases hq : pairB s j 47 42 = true
  · rw [if_pos hq] at h1 h2
    rw [if_pos hq, if_pos hq]
    cases hc : closeE s (j + 2) with
    | none => rw [hc] at h1; simp at h1
    | some e =>
      rw [hc] at h2
      simp only [Option.getD_some] at h2 ⊢
      rw [h.close h2 _ (j + 2) (Nat.le_refl _) hc]; rfl
  · rw [if_neg hq] at h1; omega
theorem Pfx.stop {s t : ByteArray} {m : Nat} {c : Int} (h : Pfx s t m c) {p : Nat} (hp : p < m) (h1 : ¬ p < pieceE s p) (h2 : ¬ (c = 47 ∧ p + 1 = m ∧ bt s p = 47)) (h3 : pairB s p 47 42 = false) : ¬ p < pieceE t p := by
  have hm := h.ms
  have hmt := h.mt
  obtain ⟨e1, e2⟩ := h.pair hp h2
  unfold pieceE at h1 ⊢
  rw [if_neg (show ¬ t.size ≤ p by omega), h.byt hp, e1, e2, h3]
  rw [if_neg (show ¬ s.size ≤ p by omega), h3] at h1
  by_cases hb : blankB (bt s p) = true
  · rw [if_pos hb] at h1; omega
  rw [if_neg hb] at h1 ⊢
  by_cases hq : pairB s p 47 47 = true
  · rw [if_pos hq] at h1
    have := runE_ge noLf s p
    have e : runE noLf s p = p := by omega
    have := runE_stop noLf s p (by omega)
    rw [e] at this
    unfold pairB at hq
    simp at hq
    rw [hq.1] at this
    exact absurd this (by decide)
  · rw [if_neg hq]; simp
theorem Pfx.ahead {s t : ByteArray} {m : Nat} {c : Int} (h : Pfx s t m c) : ∀ (n i : Nat), m - i ≤ n → i ≤ m → aheadE s i ≤ m →
    (aheadE s i < m → ¬ (c = 47 ∧ aheadE s i + 1 = m ∧ bt s (aheadE s i) = 47) → pairB s (aheadE s i) 47 42 = false → aheadE t i = aheadE s i) ∧ (aheadE s i = m → aheadE t i = aheadE t m) := by
  intro n
  induction n with
  | zero =>
    intro i hn hi hp
    have : i = m := by omega
    subst this
    refine ⟨fun q => ?_, fun _ => rfl⟩
    have := (aheadE_bd s i (by have := h.ms; omega)).1
    omega
  | succ n ih =>
    intro i hn hi hp
    by_cases hq : i < pieceE s i
    · have hbd := (aheadE_bd s (pieceE s i) (pieceE_bd s i (by have := h.ms; omega)).2).1
      rw [aheadE_go hq] at hp ⊢
      have him : i < m := by omega
      have hpc := h.piece him hq (by omega)
      rw [aheadE_go (s := t) (by rw [hpc]; exact hq), hpc]
      exact ih (pieceE s i) (by omega) (by omega) hp
    · rw [aheadE_stop hq] at hp ⊢
      refine ⟨fun q1 q2 q3 => aheadE_stop (h.stop q1 hq q2 q3), fun q => by rw [q]⟩
theorem long_bt {s : ByteArray} {p : Nat} (h : longB s p = true) : bt s (p + 1) = 61 ∨ bt s (p + 1) = 38 ∨ bt s (p + 1) = 124 := by
  unfold longB at h
  simp only [Bool.and_eq_true, decide_eq_true_eq] at h
  obtain ⟨hp, hl⟩ := h
  rw [Go.Lib.extract_toList] at hl
  have hd : (s.data.toList.drop p).take (p + 2 - p) = [s[p]'(by omega), s[p + 1]'(by omega)] := by
    rw [show p + 2 - p = 2 by omega, List.drop_eq_getElem_cons (show p < s.data.toList.length by show p < s.size; omega), List.drop_eq_getElem_cons (show p + 1 < s.data.toList.length by show p + 1 < s.size; omega)]
    rfl
  rw [bt_in (by omega)]
  have hl' : isLong [s[p]'(by omega), s[p + 1]'(by omega)] = true := by rw [← hd]; exact hl
  unfold isLong at hl'
  simp at hl'
  rcases hl' with ((q | q) | q) | q <;> rw [q.2] <;> decide
theorem Pfx.token {s t : ByteArray} {m : Nat} {c : Int} (h : Pfx s t m c) {p : Nat} (hp : p < m) (h2 : ¬ (c = 47 ∧ p + 1 = m ∧ bt s p = 47)) : tokenE s p ≤ m ∧ tokenE t p = tokenE s p := by
  have hm := h.ms
  have hmt := h.mt
  have r1 := h.run wordB (by decide) (by decide) _ p (Nat.le_refl _) (by omega)
  have r2 := h.run digitB (by decide) (by decide) _ p (Nat.le_refl _) (by omega)
  have hlong : longB t p = longB s p ∧ (longB s p = true → p + 2 ≤ m) := by
    by_cases e : p + 2 ≤ m
    · refine ⟨?_, fun _ => e⟩
      unfold longB
      rw [h.ext e, decide_eq_true (show p + 2 ≤ s.size by omega), decide_eq_true (show p + 2 ≤ t.size by omega)]
    · have e1 : p + 1 = m := by omega
      have ns : longB s p = false := by
        cases q : longB s p with
        | false => rfl
        | true => have := long_bt q; rw [e1, h.last] at this; omega
      have nt : longB t p = false := by
        cases q : longB t p with
        | false => rfl
        | true =>
          have := long_bt q
          rw [e1, h.next] at this
          rcases h.hc with ⟨r, _⟩ | ⟨r, _⟩ <;> omega
      rw [ns, nt]
      exact ⟨rfl, fun q => by cases q⟩
  unfold tokenE signE
  rw [if_neg (show ¬ s.size ≤ p by omega), if_neg (show ¬ t.size ≤ p by omega), h.byt hp, (h.pair hp h2).2, hlong.1]
  split
  · exact r1
  split
  · exact r2
  split
  · exact ⟨by omega, rfl⟩
  split
  · rename_i q; exact ⟨hlong.2 q, rfl⟩
  split
  · exact ⟨by omega, rfl⟩
  · exact ⟨by omega, rfl⟩

end Go.Proofs.Ytdaneedflpfeaaa
