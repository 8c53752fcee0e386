import Derived.Test.YtdaneedflpfeaaaDoorOut
import Derived.Lib.Strings
namespace Go.Proofs.YtdaneedflpfeaaaDoor
set_option maxRecDepth 100000
open Go.RowKit

/-- Each row stands no deeper than what is open ahead of it lets it. -/
def RC : Nat → List Rw → Prop
  | _, [] => True
  | o, x :: l => x.deep ≤ o ∧ RC (if x.inner then x.deep + 1 else x.deep) l
theorem RC.mono {o o' : Nat} {l : List Rw} (h : RC o l) (ho : o ≤ o') : RC o' l := by
  cases l with
  | nil => trivial
  | cons x l => exact ⟨by have := h.1; omega, h.2⟩
theorem RC.append {o : Nat} {l m : List Rw} (h : RC o l) (h2 : RC 0 m) : RC o (l ++ m) := by
  induction l generalizing o with
  | nil => exact h2.mono (Nat.zero_le _)
  | cons x l ih => exact ⟨h.1, ih h.2⟩
theorem RC.up {o : Nat} {l : List Rw} (h : RC o l) : RC (o + 1) (l.map Rw.up) := by
  induction l generalizing o with
  | nil => trivial
  | cons x l ih =>
    refine ⟨Nat.succ_le_succ h.1, ?_⟩
    have := ih h.2
    cases hx : x.inner
    · simpa [Rw.up, hx] using this
    · simpa [Rw.up, hx] using this
theorem RC.node {l : List Rw} (kd : ByteArray) (h : RC 0 l) : RC 0 (nodeR kd l) := ⟨Nat.le_refl _, h.up⟩

def leafT (l : List Rw) : List ByteArray := l.filterMap fun x => if x.inner then none else some x.text
theorem leafT_append (l m : List Rw) : leafT (l ++ m) = leafT l ++ leafT m := by simp [leafT]
theorem leafT_up (l : List Rw) : leafT (l.map Rw.up) = leafT l := by
  induction l with
  | nil => rfl
  | cons x l ih =>
    simp only [leafT, List.map_cons, List.filterMap_cons] at *
    rw [ih]; rfl
theorem leafT_node (kd : ByteArray) (l : List Rw) : leafT (nodeR kd l) = leafT l := by
  simp only [nodeR]
  show leafT ([(⟨0, true, kd⟩ : Rw)] ++ l.map Rw.up) = _
  rw [leafT_append, leafT_up]; rfl
def texts (toks : List Tok) (k j : Nat) : List ByteArray := ((toks.drop k).take (j - k)).map (·.text)
theorem texts_seq (toks : List Tok) {k j i : Nat} (h1 : k ≤ j) (h2 : j ≤ i) : texts toks k j ++ texts toks j i = texts toks k i := by
  unfold texts
  rw [← List.map_append]
  congr 1
  have e : toks.drop j = (toks.drop k).drop (j - k) := by rw [List.drop_drop]; congr 1; omega
  rw [e, show i - k = (j - k) + (i - j) from by omega, List.take_add]
theorem texts_one {toks : List Tok} {k : Nat} {t : Tok} (h : toks[k]? = some t) : texts toks k (k + 1) = [t.text] := by
  unfold texts
  have hlt : k < toks.length := by
    rcases Nat.lt_or_ge k toks.length with g | g
    · exact g
    · rw [List.getElem?_eq_none g] at h; cases h
  rw [List.getElem?_eq_getElem hlt] at h
  rw [List.drop_eq_getElem_cons hlt, Option.some.inj h]
  simp
theorem texts_nil (toks : List Tok) (k : Nat) : texts toks k k = [] := by simp [texts]

structure Sh (toks : List Tok) (k : Nat) (l : List Rw) (j : Nat) : Prop where
  le : k ≤ j
  rc : RC 0 l
  tx : leafT l = texts toks k j
theorem Sh.seq {toks : List Tok} {k j i : Nat} {l m : List Rw} (h : Sh toks k l j) (h2 : Sh toks j m i) : Sh toks k (l ++ m) i :=
  ⟨Nat.le_trans h.le h2.le, h.rc.append h2.rc, by rw [leafT_append, h.tx, h2.tx, texts_seq toks h.le h2.le]⟩
theorem Sh.node {toks : List Tok} {k j : Nat} {l : List Rw} (h : Sh toks k l j) (kd : ByteArray) : Sh toks k (nodeR kd l) j := ⟨h.le, h.rc.node kd, by rw [leafT_node]; exact h.tx⟩
theorem Sh.one {toks : List Tok} {k : Nat} {t : Tok} (h : toks[k]? = some t) : Sh toks k [⟨0, false, t.text⟩] (k + 1) :=
  ⟨Nat.le_succ k, ⟨Nat.le_refl _, trivial⟩, by rw [texts_one h]; rfl⟩

theorem shB (toks : List Tok) (f : G → Nat → Option Res) (ih : ∀ g k l j, f g k = some (.ok l j) → Sh toks k l j) : ∀ b k l j, Ab toks f b k = some (.ok l j) → Sh toks k l j := by
  intro b
  induction b with
  | need kd =>
    intro k l j h
    simp only [Ab] at h
    split at h
    · rename_i t ht
      split at h
      · cases h; exact Sh.one ht
      · cases h
    · cases h
  | take =>
    intro k l j h
    simp only [Ab] at h
    split at h
    · rename_i t ht; cases h; exact Sh.one ht
    · cases h
  | call g => intro k l j h; exact ih g k l j h
  | seq a b iha ihb =>
    intro k l j h
    simp only [Ab] at h
    split at h
    · cases h
    · cases h
    · rename_i l1 j1 h1
      split at h
      · cases h
      · cases h
      · rename_i l2 j2 h2
        cases h
        exact (iha _ _ _ h1).seq (ihb _ _ _ h2)
  | ite c a b iha ihb =>
    intro k l j h
    simp only [Ab] at h
    split at h
    · exact iha _ _ _ h
    · exact ihb _ _ _ h
  | skip => intro k l j h; cases h; exact ⟨Nat.le_refl _, trivial, by rw [texts_nil]; rfl⟩
  | node kd a iha =>
    intro k l j h
    simp only [Ab] at h
    split at h
    · cases h
    · cases h
    · rename_i l1 j1 h1; cases h; exact (iha _ _ _ h1).node kd
  | wrap kd a c b iha ihb =>
    intro k l j h
    simp only [Ab] at h
    split at h
    · cases h
    · cases h
    · rename_i l1 j1 h1
      split at h
      · split at h
        · cases h
        · cases h
        · rename_i l2 j2 h2
          cases h
          exact ((iha _ _ _ h1).seq (ihb _ _ _ h2)).node kd
      · cases h; exact iha _ _ _ h1
theorem shG (toks : List Tok) (n : Nat) : ∀ g k l j, Ag toks n g k = some (.ok l j) → Sh toks k l j := by
  induction n with
  | zero => intro g k l j h; cases h
  | succ n ih => intro g k l j h; exact shB toks _ ih (body g) k l j h

/-! ## The tokens' texts, one behind the other -/
def cat (l : List ByteArray) : List UInt8 := l.flatMap (·.data.toList)
theorem ext_list (s : ByteArray) (a b : Nat) : (s.extract a b).data.toList = (s.data.toList.drop a).take (b - a) := by
  rw [← Go.ByteArray.toList_eq]
  exact Lib.extract_toList s a b
theorem kindB_end (t : ByteArray) : kindB t ≠ kEnd := by
  intro h
  unfold kindB at h
  by_cases he : t = kEnd
  · subst he
    have e : kEnd.toList = [101, 110, 100] := by rw [Go.ByteArray.toList_eq]; rfl
    rw [e] at h
    exact absurd h (by decide)
  · have n1 : kNone ≠ kEnd := by decide
    have n2 : kType ≠ kEnd := by decide
    have n3 : kName ≠ kEnd := by decide
    have n4 : kNumber ≠ kEnd := by decide
    repeat' split at h
    all_goals first | exact n1 h | exact n2 h | exact n3 h | exact n4 h | exact he h
/-- A token of kind end is the last, and then the texts are all of the text. -/
theorem scanL_end (s : ByteArray) (i : Nat) (hi : i ≤ s.size) : ∀ j t, (scanL s i)[j]? = some t → t.kind = kEnd →
    j + 1 = (scanL s i).length ∧ cat ((scanL s i).map (·.text)) = s.data.toList.drop i := by
  induction i using scanL.induct s with
  | case1 i h ih =>
    have h1 := aheadE_bd s i hi
    have h2 := tokenE_bd s _ h1.2
    rw [scanL_go h.2 rfl rfl h.1]
    intro j t hj hk
    cases j with
    | zero =>
      simp at hj
      subst hj
      exact absurd hk (kindB_end _)
    | succ j =>
      obtain ⟨g1, g2⟩ := ih h2.2 j t (by simpa using hj) hk
      refine ⟨by simp [g1], ?_⟩
      simp only [cat, List.map_cons, List.flatMap_cons] at g2 ⊢
      rw [g2, ext_list]
      have e : s.data.toList.drop (tokenE s (aheadE s i)) = (s.data.toList.drop i).drop (tokenE s (aheadE s i) - i) := by rw [List.drop_drop]; congr 1; omega
      rw [e, List.take_append_drop]
  | case2 i h =>
    rw [scanL, dif_neg h]
    intro j t hj hk
    have hj0 : j = 0 := by
      cases j with
      | zero => rfl
      | succ j => simp at hj
    subst hj0
    simp at hj
    subst hj
    refine ⟨rfl, ?_⟩
    have hsz : ¬ aheadE s i < s.size := by
      intro hlt
      simp only [hlt, if_true] at hk
      exact absurd hk (by decide)
    have h1 := aheadE_bd s i hi
    simp only [cat, List.map_cons, List.map_nil, List.flatMap_cons, List.flatMap_nil, List.append_nil]
    rw [ext_list, List.take_of_length_le]
    simp only [List.length_drop]
    show s.size - i ≤ aheadE s i - i
    omega

/-- The leaves of a program's rows are its text. -/
theorem parse_cat {s : ByteArray} {l : List Rw} {j : Nat} (h : parseT (scanL s 0) = some (.ok l j)) : cat (leafT l) = s.data.toList := by
  obtain ⟨l1, l2, k, rfl, h1, h2⟩ := parseT_node h
  have sh := shG _ _ _ _ _ _ h
  rw [sh.tx]
  simp only [Ab] at h2
  split at h2
  · rename_i t ht
    split at h2
    · rename_i hk
      cases h2
      obtain ⟨g1, g2⟩ := scanL_end s 0 (Nat.zero_le _) k t ht hk
      rw [List.drop_zero] at g2
      rw [← g2, texts, List.drop_zero, Nat.sub_zero, List.take_of_length_le (by omega)]
    · cases h2
  · cases h2

end Go.Proofs.YtdaneedflpfeaaaDoor
