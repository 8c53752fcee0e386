import Derived.Test.YtdaneedflpfeaabGreatDoorSim
import Derived.Test.YtdaneedflpfeaabGreatDoorStr
import Derived.Test.YtdaneedflpfeaabGreatDoorRead
import Derived.Lib.Strings
namespace Go.Proofs.YtdaneedflpfeaabGreatDoor
set_option maxRecDepth 100000
open Go.RowKit

def kProgram : ByteArray := ⟨#[112, 114, 111, 103, 114, 97, 109]⟩
def placeA (toks : List Tok) (j : Nat) : Nat := match toks[j]? with | none => 0 | some t => t.place
/-- What read answers of a text. -/
def outT (s : ByteArray) : ROut :=
  if 600 < s.size then .err 1 0 else match parseT (scanL s 0) with
  | some (.fail j) => .err 2 (placeA (scanL s 0) j)
  | some (.ok l _) => if 20 < innerD (l.map (toNd 0)) then .err 3 0 else if 80 < l.length then .err 4 0 else .ok (l.map (toNd 0))
  | none => .err 0 0

theorem parseT_node {toks : List Tok} {l : List Rw} {j : Nat} (h : parseT toks = some (.ok l j)) : ∃ l1 l2 k, l = nodeR kProgram (l1 ++ l2) ∧ Ag toks 7299 .funcs 0 = some (.ok l1 k) ∧ Ab toks (Ag toks 7299) (.need kEnd) k = some (.ok l2 j) := by
  have h' : Ab toks (Ag toks 7299) (body .program) 0 = some (.ok l j) := h
  simp only [body] at h'
  generalize Gr.need kEnd = nd at h' ⊢
  simp only [Ab] at h'
  split at h'
  · cases h'
  · cases h'
  · rename_i l3 j3 h3
    cases h'
    split at h3
    · cases h3
    · cases h3
    · rename_i l1 k h1
      split at h3
      · cases h3
      · cases h3
      · rename_i l2 j2 h2
        cases h3
        exact ⟨l1, l2, k, rfl, h1, h2⟩

theorem read_all (s : ByteArray) (w : World) : Calls Tryz.prog 10 #[.string s] w fun e w' => RPost w (outT s) e w' := by
  by_cases hs : 600 < s.size
  · rw [show outT s = .err 1 0 from by simp [outT, hs]]
    exact read_long s w hs
  · have hlen := scanL_len s 0 (Nat.zero_le _)
    obtain ⟨res, hres⟩ := parseT_some (scanL s 0) (by omega)
    have hsz : sz st0 0 := ⟨Nat.le_refl _, by decide, by decide, fun x hx => by cases hx⟩
    obtain ⟨st', he, hm⟩ := simG (scanL s 0) fuelT .program 0 res hres st0 0 rfl (Nat.zero_le _) rfl hsz (by show 0 + 20 * ((scanL s 0).length - 0) + 50 * 7300 + 60 + 0 ≤ 999999; omega)
    cases res with
    | fail j =>
      have := read_core s w (by omega) (scanL s 0) rfl _ st' he (fun h => by rw [hm.1] at h; cases h)
      rw [show readOut (scanL s 0) st' = outT s from by
        simp only [readOut, hm.1, outT, hres, placeL, placeA, hm.2.1, if_true]
        rw [if_neg hs]
        rfl] at this
      exact this
    | ok l j =>
      have hm' : st' = okSt st0 l j := hm
      obtain ⟨l1, l2, k, rfl, _⟩ := parseT_node hres
      have hnd : st'.nodes = (nodeR kProgram (l1 ++ l2)).map (toNd 0) := by rw [hm']; rfl
      have := read_core s w (by omega) (scanL s 0) rfl _ st' he (fun _ => by rw [hnd]; simp [nodeR])
      rw [show readOut (scanL s 0) st' = outT s from by
        have hfl : st'.failed = false := by rw [hm']; rfl
        simp only [readOut, hfl, outT, hres, hnd, List.length_map]
        rw [if_neg hs]
        rfl] at this
      exact this

/-! ## What holds of all rows -/
def kindsOf : Gr → List ByteArray
  | .seq a b => kindsOf a ++ kindsOf b
  | .ite _ a b => kindsOf a ++ kindsOf b
  | .node k a => k :: kindsOf a
  | .wrap k a _ b => k :: (kindsOf a ++ kindsOf b)
  | _ => []
theorem propB (toks : List Tok) (Q : Rw → Prop) (hup : ∀ x, Q x → Q x.up) (hleaf : ∀ t ∈ toks, Q ⟨0, false, t.text⟩) (f : G → Nat → Option Res) (ih : ∀ g k l j, f g k = some (.ok l j) → ∀ x ∈ l, Q x) :
    ∀ b k l j, (∀ kd ∈ kindsOf b, Q ⟨0, true, kd⟩) → Ab toks f b k = some (.ok l j) → ∀ x ∈ l, Q x := by
  have hnode : ∀ kd l, Q ⟨0, true, kd⟩ → (∀ x ∈ l, Q x) → ∀ x ∈ nodeR kd l, Q x := by
    intro kd l hk hl x hx
    rcases List.mem_cons.1 hx with rfl | hx
    · exact hk
    · obtain ⟨y, hy, rfl⟩ := List.mem_map.1 hx
      exact hup y (hl y hy)
  intro b
  induction b with
  | need kd =>
    intro k l j _ h
    simp only [Ab] at h
    split at h
    · rename_i t ht
      split at h
      · cases h; intro x hx; simp at hx; subst hx; exact hleaf t (List.mem_of_getElem? ht)
      · cases h
    · cases h
  | take =>
    intro k l j _ h
    simp only [Ab] at h
    split at h
    · rename_i t ht; cases h; intro x hx; simp at hx; subst hx; exact hleaf t (List.mem_of_getElem? ht)
    · cases h
  | call g => intro k l j _ h; exact ih g k l j h
  | seq a b iha ihb =>
    intro k l j hk h
    simp only [Ab] at h
    split at h
    · cases h
    · cases h
    · rename_i l1 j1 h1
      split at h
      · cases h
      · cases h
      · rename_i l2 j2 h2
        cases h
        intro x hx
        rcases List.mem_append.1 hx with hx | hx
        · exact iha _ _ _ (fun kd h => hk kd (by simp [kindsOf, h])) h1 x hx
        · exact ihb _ _ _ (fun kd h => hk kd (by simp [kindsOf, h])) h2 x hx
  | ite c a b iha ihb =>
    intro k l j hk h
    simp only [Ab] at h
    split at h
    · exact iha _ _ _ (fun kd h => hk kd (by simp [kindsOf, h])) h
    · exact ihb _ _ _ (fun kd h => hk kd (by simp [kindsOf, h])) h
  | skip => intro k l j _ h; cases h; intro x hx; cases hx
  | node kd a iha =>
    intro k l j hk h
    simp only [Ab] at h
    split at h
    · cases h
    · cases h
    · rename_i l1 j1 h1; cases h; exact hnode kd l1 (hk kd (by simp [kindsOf])) (iha _ _ _ (fun kd h => hk kd (by simp [kindsOf, h])) h1)
  | wrap kd a c b iha ihb =>
    intro k l j hk h
    simp only [Ab] at h
    split at h
    · cases h
    · cases h
    · rename_i l1 j1 h1
      have ha := iha _ _ _ (fun kd h => hk kd (by simp [kindsOf, h])) h1
      split at h
      · split at h
        · cases h
        · cases h
        · rename_i l2 j2 h2
          cases h
          refine hnode kd _ (hk kd (by simp [kindsOf])) fun x hx => ?_
          rcases List.mem_append.1 hx with hx | hx
          · exact ha x hx
          · exact ihb _ _ _ (fun kd h => hk kd (by simp [kindsOf, h])) h2 x hx
      · cases h; exact ha
theorem propG (toks : List Tok) (Q : Rw → Prop) (hup : ∀ x, Q x → Q x.up) (hleaf : ∀ t ∈ toks, Q ⟨0, false, t.text⟩) (hkind : ∀ g, ∀ kd ∈ kindsOf (body g), Q ⟨0, true, kd⟩) (n : Nat) :
    ∀ g k l j, Ag toks n g k = some (.ok l j) → ∀ x ∈ l, Q x := by
  induction n with
  | zero => intro g k l j h; cases h
  | succ n ih => intro g k l j h; exact propB toks Q hup hleaf _ ih (body g) k l j (hkind g) h

theorem kinds_small (g : G) : ∀ kd ∈ kindsOf (body g), kd.size ≤ 1000000 := by
  have h : (kindsOf (body g)).all (fun kd => decide (kd.size ≤ 1000000)) = true := by cases g <;> decide
  intro kd hk
  exact of_decide_eq_true (List.all_eq_true.1 h kd hk)

theorem extract_size (s : ByteArray) (a b : Nat) : (s.extract a b).size ≤ s.size := by
  rw [ByteArray.size_extract]; omega
theorem scanL_text (s : ByteArray) (i : Nat) : ∀ t ∈ scanL s i, t.text.size ≤ s.size := by
  induction i using scanL.induct s with
  | case1 i hi ih =>
    rw [scanL_go hi.2 rfl rfl hi.1]
    intro t ht
    rcases List.mem_cons.1 ht with rfl | ht
    · exact extract_size _ _ _
    · exact ih t ht
  | case2 i hi =>
    rw [scanL, dif_neg hi]
    intro t ht
    simp at ht; subst ht; exact extract_size _ _ _

theorem outT_mod {s : ByteArray} {nodes : List Nd} (h : outT s = .ok nodes) : ∃ l j, s.size ≤ 600 ∧ parseT (scanL s 0) = some (.ok l j) ∧ nodes = l.map (toNd 0) ∧ l.length ≤ 80 ∧ Mod nodes := by
  unfold outT at h
  by_cases hs : 600 < s.size
  · rw [if_pos hs] at h; cases h
  rw [if_neg hs] at h
  split at h
  · cases h
  · rename_i l j hp
    split at h
    · cases h
    split at h
    · cases h
    rename_i h1 h2
    cases h
    refine ⟨l, j, by omega, hp, rfl, by omega, ?_⟩
    have fa := rowsG _ _ _ _ _ _ hp
    have hq := propG (scanL s 0) (fun x => x.text.size ≤ 1000000) (fun x h => h) (fun t ht => by have := scanL_text s 0 t ht; show t.text.size ≤ _; omega) kinds_small _ _ _ _ _ hp
    intro x hx
    obtain ⟨y, hy, rfl⟩ := List.mem_map.1 hx
    have := fa.deep y hy
    refine ⟨?_, ?_, hq y hy⟩
    · show -1000000 ≤ 0 + (y.deep : Int); omega
    · show 0 + (y.deep : Int) ≤ 1000000; omega
  · cases h

theorem scanL_place (s : ByteArray) (i : Nat) (hi : i ≤ s.size) : ∀ t ∈ scanL s i, t.place ≤ s.size := by
  induction i using scanL.induct s with
  | case1 i h ih =>
    have h1 := aheadE_bd s i hi
    rw [scanL_go h.2 rfl rfl h.1]
    intro t ht
    rcases List.mem_cons.1 ht with rfl | ht
    · exact h1.2
    · exact ih (tokenE_bd s _ h1.2).2 t ht
  | case2 i h =>
    rw [scanL, dif_neg h]
    intro t ht
    simp at ht; subst ht; exact (aheadE_bd s i hi).2
theorem placeA_le (s : ByteArray) (j : Nat) : placeA (scanL s 0) j ≤ s.size := by
  unfold placeA
  split
  · exact Nat.zero_le _
  · rename_i t ht; exact scanL_place s 0 (Nat.zero_le _) t (List.mem_of_getElem? ht)
theorem outT_err {s : ByteArray} {c p : Int} (h : outT s = .err c p) : (c = 1 ∧ p = 0 ∧ 600 < s.size) ∨ (c = 2 ∧ 0 ≤ p ∧ p ≤ s.size ∧ s.size ≤ 600) ∨ ((c = 3 ∨ c = 4) ∧ p = 0 ∧ s.size ≤ 600) := by
  unfold outT at h
  by_cases hs : 600 < s.size
  · rw [if_pos hs] at h; cases h; exact .inl ⟨rfl, rfl, hs⟩
  rw [if_neg hs] at h
  have hlen := scanL_len s 0 (Nat.zero_le _)
  obtain ⟨res, hres⟩ := parseT_some (scanL s 0) (by omega)
  rw [hres] at h
  cases res with
  | fail j => cases h; have := placeA_le s j; exact .inr (.inl ⟨rfl, by omega, by omega, by omega⟩)
  | ok l j =>
    simp only at h
    split at h
    · cases h; exact .inr (.inr ⟨.inl rfl, rfl, by omega⟩)
    split at h
    · cases h; exact .inr (.inr ⟨.inr rfl, rfl, by omega⟩)
    · cases h
theorem outT_ne {s : ByteArray} {c p : Int} (h : outT s = .err c p) : c ≠ 0 ∧ c ≤ 4 ∧ 1 ≤ c := by
  rcases outT_err h with h | h | h <;> omega


end Go.Proofs.YtdaneedflpfeaabGreatDoor

namespace Go.Proofs.YtdaneedflpfeaabGreatDoor
set_option maxRecDepth 100000
open Go.RowKit

/-- Each row stands no deeper than what is open ahead of it lets it. -/
def RC : Nat → List Rw → Prop
  | _, [] => True
  | o, x :: l => x.deep ≤ o ∧ RC (if x.inner then x.deep + 1 else x.deep) l
theorem RC.mono {o o' : Nat} {l : List Rw} (h : RC o l) (ho : o ≤ o') : RC o' l := by
  cases l with
  | nil => trivial
  | cons x l => exact ⟨by have := h.1; omega, h.2⟩
theorem RC.append {o : Nat} {l m : List Rw} (h : RC o l) (h2 : RC 0 m) : RC o (l ++ m) := by
  induction l generalizing o with
  | nil => exact h2.mono (Nat.zero_le _)
  | cons x l ih => exact ⟨h.1, ih h.2⟩
theorem RC.up {o : Nat} {l : List Rw} (h : RC o l) : RC (o + 1) (l.map Rw.up) := by
  induction l generalizing o with
  | nil => trivial
  | cons x l ih =>
    refine ⟨Nat.succ_le_succ h.1, ?_⟩
    have := ih h.2
    cases hx : x.inner
    · simpa [Rw.up, hx] using this
    · simpa [Rw.up, hx] using this
theorem RC.node {l : List Rw} (kd : ByteArray) (h : RC 0 l) : RC 0 (nodeR kd l) := ⟨Nat.le_refl _, h.up⟩

def leafT (l : List Rw) : List ByteArray := l.filterMap fun x => if x.inner then none else some x.text
theorem leafT_append (l m : List Rw) : leafT (l ++ m) = leafT l ++ leafT m := by simp [leafT]
theorem leafT_up (l : List Rw) : leafT (l.map Rw.up) = leafT l := by
  induction l with
  | nil => rfl
  | cons x l ih =>
    simp only [leafT, List.map_cons, List.filterMap_cons] at *
    rw [ih]; rfl
theorem leafT_node (kd : ByteArray) (l : List Rw) : leafT (nodeR kd l) = leafT l := by
  simp only [nodeR]
  show leafT ([(⟨0, true, kd⟩ : Rw)] ++ l.map Rw.up) = _
  rw [leafT_append, leafT_up]; rfl
def texts (toks : List Tok) (k j : Nat) : List ByteArray := ((toks.drop k).take (j - k)).map (·.text)
theorem texts_seq (toks : List Tok) {k j i : Nat} (h1 : k ≤ j) (h2 : j ≤ i) : texts toks k j ++ texts toks j i = texts toks k i := by
  unfold texts
  rw [← List.map_append]
  congr 1
  have e : toks.drop j = (toks.drop k).drop (j - k) := by rw [List.drop_drop]; congr 1; omega
  rw [e, show i - k = (j - k) + (i - j) from by omega, List.take_add]
theorem texts_one {toks : List Tok} {k : Nat} {t : Tok} (h : toks[k]? = some t) : texts toks k (k + 1) = [t.text] := by
  unfold texts
  have hlt : k < toks.length := by
    rcases Nat.lt_or_ge k toks.length with g | g
    · exact g
    · rw [List.getElem?_eq_none g] at h; cases h
  rw [List.getElem?_eq_getElem hlt] at h
  rw [List.drop_eq_getElem_cons hlt, Option.some.inj h]
  simp
theorem texts_nil (toks : List Tok) (k : Nat) : texts toks k k = [] := by simp [texts]

structure Sh (toks : List Tok) (k : Nat) (l : List Rw) (j : Nat) : Prop where
  le : k ≤ j
  rc : RC 0 l
  tx : leafT l = texts toks k j
theorem Sh.seq {toks : List Tok} {k j i : Nat} {l m : List Rw} (h : Sh toks k l j) (h2 : Sh toks j m i) : Sh toks k (l ++ m) i :=
  ⟨Nat.le_trans h.le h2.le, h.rc.append h2.rc, by rw [leafT_append, h.tx, h2.tx, texts_seq toks h.le h2.le]⟩
theorem Sh.node {toks : List Tok} {k j : Nat} {l : List Rw} (h : Sh toks k l j) (kd : ByteArray) : Sh toks k (nodeR kd l) j := ⟨h.le, h.rc.node kd, by rw [leafT_node]; exact h.tx⟩
theorem Sh.one {toks : List Tok} {k : Nat} {t : Tok} (h : toks[k]? = some t) : Sh toks k [⟨0, false, t.text⟩] (k + 1) :=
  ⟨Nat.le_succ k, ⟨Nat.le_refl _, trivial⟩, by rw [texts_one h]; rfl⟩

theorem shB (toks : List Tok) (f : G → Nat → Option Res) (ih : ∀ g k l j, f g k = some (.ok l j) → Sh toks k l j) : ∀ b k l j, Ab toks f b k = some (.ok l j) → Sh toks k l j := by
  intro b
  induction b with
  | need kd =>
    intro k l j h
    simp only [Ab] at h
    split at h
    · rename_i t ht
      split at h
      · cases h; exact Sh.one ht
      · cases h
    · cases h
  | take =>
    intro k l j h
    simp only [Ab] at h
    split at h
    · rename_i t ht; cases h; exact Sh.one ht
    · cases h
  | call g => intro k l j h; exact ih g k l j h
  | seq a b iha ihb =>
    intro k l j h
    simp only [Ab] at h
    split at h
    · cases h
    · cases h
    · rename_i l1 j1 h1
      split at h
      · cases h
      · cases h
      · rename_i l2 j2 h2
        cases h
        exact (iha _ _ _ h1).seq (ihb _ _ _ h2)
  | ite c a b iha ihb =>
    intro k l j h
    simp only [Ab] at h
    split at h
    · exact iha _ _ _ h
    · exact ihb _ _ _ h
  | skip => intro k l j h; cases h; exact ⟨Nat.le_refl _, trivial, by rw [texts_nil]; rfl⟩
  | node kd a iha =>
    intro k l j h
    simp only [Ab] at h
    split at h
    · cases h
    · cases h
    · rename_i l1 j1 h1; cases h; exact (iha _ _ _ h1).node kd
  | wrap kd a c b iha ihb =>
    intro k l j h
    simp only [Ab] at h
    split at h
    · cases h
    · cases h
    · rename_i l1 j1 h1
      split at h
      · split at h
        · cases h
        · cases h
        · rename_i l2 j2 h2
          cases h
          exact ((iha _ _ _ h1).seq (ihb _ _ _ h2)).node kd
      · cases h; exact iha _ _ _ h1
theorem shG (toks : List Tok) (n : Nat) : ∀ g k l j, Ag toks n g k = some (.ok l j) → Sh toks k l j := by
  induction n with
  | zero => intro g k l j h; cases h
  | succ n ih => intro g k l j h; exact shB toks _ ih (body g) k l j h

/-! ## The tokens' texts, one behind the other -/
def cat (l : List ByteArray) : List UInt8 := l.flatMap (·.data.toList)
theorem ext_list (s : ByteArray) (a b : Nat) : (s.extract a b).data.toList = (s.data.toList.drop a).take (b - a) := by
  rw [← Go.ByteArray.toList_eq]
  exact Lib.extract_toList s a b
theorem kindB_end (t : ByteArray) : kindB t ≠ kEnd := by
  intro h
  unfold kindB at h
  by_cases he : t = kEnd
  · subst he
    have e : kEnd.toList = [101, 110, 100] := by rw [Go.ByteArray.toList_eq]; rfl
    rw [e] at h
    exact absurd h (by decide)
  · have n1 : kNone ≠ kEnd := by decide
    have n2 : kType ≠ kEnd := by decide
    have n3 : kName ≠ kEnd := by decide
    have n4 : kNumber ≠ kEnd := by decide
    repeat' split at h
    all_goals first | exact n1 h | exact n2 h | exact n3 h | exact n4 h | exact he h
/-- A token of kind end is the last, and then the texts are all of the text. -/
theorem scanL_end (s : ByteArray) (i : Nat) (hi : i ≤ s.size) : ∀ j t, (scanL s i)[j]? = some t → t.kind = kEnd →
    j + 1 = (scanL s i).length ∧ cat ((scanL s i).map (·.text)) = s.data.toList.drop i := by
  induction i using scanL.induct s with
  | case1 i h ih =>
    have h1 := aheadE_bd s i hi
    have h2 := tokenE_bd s _ h1.2
    rw [scanL_go h.2 rfl rfl h.1]
    intro j t hj hk
    cases j with
    | zero =>
      simp at hj
      subst hj
      exact absurd hk (kindB_end _)
    | succ j =>
      obtain ⟨g1, g2⟩ := ih h2.2 j t (by simpa using hj) hk
      refine ⟨by simp [g1], ?_⟩
      simp only [cat, List.map_cons, List.flatMap_cons] at g2 ⊢
      rw [g2, ext_list]
      have e : s.data.toList.drop (tokenE s (aheadE s i)) = (s.data.toList.drop i).drop (tokenE s (aheadE s i) - i) := by rw [List.drop_drop]; congr 1; omega
      rw [e, List.take_append_drop]
  | case2 i h =>
    rw [scanL, dif_neg h]
    intro j t hj hk
    have hj0 : j = 0 := by
      cases j with
      | zero => rfl
      | succ j => simp at hj
    subst hj0
    simp at hj
    subst hj
    refine ⟨rfl, ?_⟩
    have hsz : ¬ aheadE s i < s.size := by
      intro hlt
      simp only [hlt, if_true] at hk
      exact absurd hk (by decide)
    have h1 := aheadE_bd s i hi
    simp only [cat, List.map_cons, List.map_nil, List.flatMap_cons, List.flatMap_nil, List.append_nil]
    rw [ext_list, List.take_of_length_le]
    simp only [List.length_drop]
    show s.size - i ≤ aheadE s i - i
    omega

/-- The leaves of a program's rows are its text. -/
theorem parse_cat {s : ByteArray} {l : List Rw} {j : Nat} (h : parseT (scanL s 0) = some (.ok l j)) : cat (leafT l) = s.data.toList := by
  obtain ⟨l1, l2, k, rfl, h1, h2⟩ := parseT_node h
  have sh := shG _ _ _ _ _ _ h
  rw [sh.tx]
  simp only [Ab] at h2
  split at h2
  · rename_i t ht
    split at h2
    · rename_i hk
      cases h2
      obtain ⟨g1, g2⟩ := scanL_end s 0 (Nat.zero_le _) k t ht hk
      rw [List.drop_zero] at g2
      rw [← g2, texts, List.drop_zero, Nat.sub_zero, List.take_of_length_le (by omega)]
    · cases h2
  · cases h2

end Go.Proofs.YtdaneedflpfeaabGreatDoor

namespace Go.Proofs.YtdaneedflpfeaabGreatDoor
set_option maxRecDepth 100000
open Go.RowKit

theorem kinds_small3 (g : G) : ∀ kd ∈ kindsOf (body g), kd.size ≤ 1000 := by
  have h : (kindsOf (body g)).all (fun kd => decide (kd.size ≤ 1000)) = true := by cases g <;> decide
  intro kd hk
  exact of_decide_eq_true (List.all_eq_true.1 h kd hk)
/-- What a text that is a program reads as. -/
theorem ok_rows {s : ByteArray} {nodes : List Nd} (h : outT s = .ok nodes) : ∃ l, nodes = (nodeR kProgram l).map (toNd 0) ∧ RC 0 l ∧ 1 ≤ l.length ∧ l.length ≤ 79 ∧ ∀ x ∈ l, x.deep ≤ 1000 ∧ x.text.size ≤ 1000 := by
  obtain ⟨l0, j, hs, hp, rfl, hlen, _⟩ := outT_mod h
  have fa := rowsG _ _ _ _ _ _ hp
  have hq := propG (scanL s 0) (fun x => x.text.size ≤ 1000) (fun x h => h) (fun t ht => by have := scanL_text s 0 t ht; show t.text.size ≤ _; omega) kinds_small3 _ _ _ _ _ hp
  obtain ⟨l1, l2, k, rfl, h1, h2⟩ := parseT_node hp
  have hl2 : ∃ t ∈ scanL s 0, l2 = [⟨0, false, t.text⟩] := by
    simp only [Ab] at h2
    split at h2
    · rename_i t ht
      split at h2
      · cases h2
        exact ⟨t, List.mem_of_getElem? ht, rfl⟩
      · cases h2
    · cases h2
  obtain ⟨t, ht, rfl⟩ := hl2
  have sh := (shG (scanL s 0) _ _ _ _ _ h1).rc
  have e0 : (nodeR kProgram (l1 ++ [(⟨0, false, t.text⟩ : Rw)])).length = (l1 ++ [(⟨0, false, t.text⟩ : Rw)]).length + 1 := by simp [nodeR]
  refine ⟨_, rfl, sh.append ⟨Nat.le_refl _, trivial⟩, by simp, by omega, fun x hx => ?_⟩
  have hx' : x.up ∈ nodeR kProgram (l1 ++ [⟨0, false, t.text⟩]) := List.mem_cons_of_mem _ (List.mem_map_of_mem hx)
  have d := fa.deep _ hx'
  have e := hq _ hx'
  have hl := scanL_len s 0 (Nat.zero_le _)
  refine ⟨?_, e⟩
  have : x.up.deep = x.deep + 1 := rfl
  omega

end Go.Proofs.YtdaneedflpfeaabGreatDoor
