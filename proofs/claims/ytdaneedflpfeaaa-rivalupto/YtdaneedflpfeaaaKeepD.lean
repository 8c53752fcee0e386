import Derived.Test.YtdaneedflpfeaaaKeepA
import Derived.Test.YtdaneedflpfeaaaPatT
namespace Go.Proofs.Ytdaneedflpfeaaa
set_option maxRecDepth 100000
open Go.RowKit

/-! ## A step changes the fewest steps by one at most -/
theorem ed_cast0 {α : Type} [DecidableEq α] {a : α} {c c' s s' : Dist.Fo α} {n m : Nat} (h1 : Dist.Ed c c' n) (h2 : Dist.Ed s s' m) : Dist.Ed (.cons a c s) (.cons a c' s') (n + m) := (Dist.Ed.mat h1 h2).cast (by rw [Dist.rel_self]; omega)
/-- A node goes, what stands below it comes up. -/
theorem ed_del {β α : Type} [DecidableEq α] (d : β → Int) (lb : β → α) (sh : β → β) (hd : ∀ z, d (sh z) = d z - 1) (hl : ∀ z, lb (sh z) = lb z) (x : β) (C : List β) (hC : ∀ c ∈ C, d x < d c) (hC1 : ∀ c, C.head? = some c → d c ≤ d x + 1) :
    ∀ (n : Nat) (A D : List β), A.length ≤ n → (∀ y, D.head? = some y → d y ≤ d x) → Dist.Ed ((Dist.fo d (A ++ x :: (C ++ D))).map lb) ((Dist.fo d (A ++ (C.map sh ++ D))).map lb) 1 := by
  have base : ∀ D : List β, (∀ y, D.head? = some y → d y ≤ d x) → Dist.Ed ((Dist.fo d (x :: (C ++ D))).map lb) ((Dist.fo d (C.map sh ++ D)).map lb) 1 := by
    intro D hD
    rw [Dist.fo_cons d x C D hC hD, Dist.fo_app d _ (C.map sh) D (Nat.le_refl _) (fun z hz y hy => by
      obtain ⟨c, hc, rfl⟩ := List.mem_map.1 hz
      have := hC c hc; have := hD y hy; have := hd c
      omega), Dist.fo_map d d sh (fun u v => by rw [hd, hd]; omega) _ C (Nat.le_refl _), Dist.map_app, Dist.map_map, Dist.Fo.map]
    rw [show (fun z => lb (sh z)) = lb from funext hl]
    exact (Dist.Ed.del (Dist.Ed.refl _)).cast rfl
  intro n
  induction n with
  | zero =>
    intro A D hA hD
    cases A with
    | nil => exact base D hD
    | cons => simp at hA
  | succ n ih =>
    intro A D hA hD
    cases A with
    | nil => exact base D hD
    | cons y A =>
      obtain ⟨e, h1, h2⟩ := Dist.while_parts (fun z => decide (d y < d z)) A
      have hl1 := Dist.dropWhile_len (fun z => decide (d y < d z)) A
      generalize A.takeWhile (fun z => decide (d y < d z)) = P at *
      generalize A.dropWhile (fun z => decide (d y < d z)) = Q at *
      have hP : ∀ z ∈ P, d y < d z := fun z hz => by simpa using h1 z hz
      subst e
      cases Q with
      | cons q Q =>
        have hq : d q ≤ d y := by have := h2 q rfl; simpa using this
        rw [List.cons_append, List.cons_append, List.append_assoc, List.append_assoc, Dist.fo_cons d y P _ hP (fun z hz => by simp at hz; subst hz; exact hq), Dist.fo_cons d y P _ hP (fun z hz => by simp at hz; subst hz; exact hq), Dist.Fo.map, Dist.Fo.map]
        exact (ed_cast0 (Dist.Ed.refl _) (ih (q :: Q) D (by simp at hA hl1 ⊢; omega) hD)).cast (by omega)
      | nil =>
        rw [List.append_nil]
        by_cases hx : d y < d x
        · obtain ⟨e2, g1, g2⟩ := Dist.while_parts (fun z => decide (d y < d z)) D
          generalize D.takeWhile (fun z => decide (d y < d z)) = D1 at *
          generalize D.dropWhile (fun z => decide (d y < d z)) = D2 at *
          subst e2
          have hD2 : ∀ z, D2.head? = some z → d z ≤ d y := fun z hz => by have := g2 z hz; simpa using this
          have hD1 : ∀ z ∈ D1, d y < d z := fun z hz => by simpa using g1 z hz
          have r1 : P ++ x :: (C ++ (D1 ++ D2)) = (P ++ x :: (C ++ D1)) ++ D2 := by simp
          have r2 : P ++ (C.map sh ++ (D1 ++ D2)) = (P ++ (C.map sh ++ D1)) ++ D2 := by simp
          rw [List.cons_append, List.cons_append, r1, r2, Dist.fo_cons d y _ D2 (fun z hz => by
              rcases List.mem_append.1 hz with q | q
              · exact hP z q
              · rcases List.mem_cons.1 q with q | q
                · rw [q]; exact hx
                · rcases List.mem_append.1 q with q | q
                  · have := hC z q; omega
                  · exact hD1 z q) hD2, Dist.fo_cons d y _ D2 (fun z hz => by
              rcases List.mem_append.1 hz with q | q
              · exact hP z q
              · rcases List.mem_append.1 q with q | q
                · obtain ⟨c, hc, rfl⟩ := List.mem_map.1 q
                  have := hC c hc; have := hd c
                  omega
                · exact hD1 z q) hD2, Dist.Fo.map, Dist.Fo.map]
          exact ed_cast0 (ih P D1 (by simp at hA; omega) (fun z hz => hD z (by cases D1 with
            | nil => simp at hz
            | cons u D1 => simpa using hz))) (Dist.Ed.refl _)
        · have hxy : d x ≤ d y := by omega
          rw [List.cons_append, List.cons_append, Dist.fo_cons d y P _ hP (fun z hz => by simp at hz; subst hz; exact hxy), Dist.fo_cons d y P _ hP (fun z hz => by
            cases C with
            | nil => simp at hz; have := hD z hz; omega
            | cons c C =>
              simp at hz
              have := hC1 c rfl
              subst hz
              have := hd c
              omega), Dist.Fo.map, Dist.Fo.map]
          exact (ed_cast0 (Dist.Ed.refl _) (base D hD)).cast (by omega)
theorem parts_self {α : Type} [DecidableEq α] (l : List α) : partsN l l = 0 := by
  induction l with
  | nil => rfl
  | cons a l ih => rw [partsN, ih, Dist.rel_self]
theorem parts_set {α : Type} [DecidableEq α] (l : List α) (k : Nat) (y : α) : partsN l (l.set k y) ≤ 1 := by
  induction l generalizing k with
  | nil => simp [partsN]
  | cons a l ih => cases k with
    | zero => rw [List.set_cons_zero, partsN, parts_self]; have := Dist.rel_le a y; omega
    | succ k => rw [List.set_cons_succ, partsN, Dist.rel_self]; have := ih k; omega

end Go.Proofs.Ytdaneedflpfeaaa

namespace Go.Proofs.Ytdaneedflpfeaaa
set_option maxRecDepth 100000
open Go.RowKit

/-- What stands below a list of nodes' root. -/
def foN (L : List Nd) : Dist.Fo (Bool × ByteArray) := (Dist.fo Nd.depth (L.drop 1)).map lab
/-- Each node at most one deeper than the one ahead of it. -/
def Ch : List Nd → Prop
  | [] => True
  | [_] => True
  | x :: y :: l => y.depth ≤ x.depth + 1 ∧ Ch (y :: l)
theorem Ch.tail {x : Nd} {l : List Nd} (h : Ch (x :: l)) : Ch l := by
  cases l with
  | nil => trivial
  | cons y l => exact h.2
theorem ch_cons (x : Nd) (l : List Nd) : Ch (x :: l) ↔ Ch l ∧ ∀ y, l.head? = some y → y.depth ≤ x.depth + 1 := by
  cases l with
  | nil => simp [Ch]
  | cons y l =>
    constructor
    · intro h; exact ⟨h.2, fun z hz => by simp at hz; subst hz; exact h.1⟩
    · intro h; exact ⟨h.2 y rfl, h.1⟩
theorem ch_app (A B : List Nd) : Ch (A ++ B) ↔ Ch A ∧ Ch B ∧ ∀ a b, A.getLast? = some a → B.head? = some b → b.depth ≤ a.depth + 1 := by
  induction A with
  | nil => simp [Ch]
  | cons x A ih =>
    rw [List.cons_append, ch_cons, ch_cons, ih]
    cases A with
    | nil =>
      simp only [List.nil_append, Ch, List.getLast?_singleton, Option.some.injEq]
      constructor
      · rintro ⟨⟨_, h2, _⟩, h4⟩
        exact ⟨⟨trivial, fun y hy => by simp at hy⟩, h2, fun a b ha hb => by subst ha; exact h4 b hb⟩
      · rintro ⟨_, h2, h3⟩
        exact ⟨⟨trivial, h2, fun a b ha => by simp at ha⟩, fun y hy => h3 x y rfl hy⟩
    | cons z A =>
      have e : (x :: z :: A).getLast? = (z :: A).getLast? := by simp [List.getLast?_cons_cons]
      rw [e]
      simp only [List.cons_append, List.head?_cons, Option.some.injEq]
      constructor
      · rintro ⟨⟨h1, h2, h3⟩, h4⟩
        exact ⟨⟨h1, h4⟩, h2, h3⟩
      · rintro ⟨⟨h1, h4⟩, h2, h3⟩
        exact ⟨⟨h1, h2, h3⟩, h4⟩
theorem ch_depth {L M : List Nd} (e : L.map Nd.depth = M.map Nd.depth) (h : Ch L) : Ch M := by
  induction L generalizing M with
  | nil => cases M with
    | nil => trivial
    | cons => simp at e
  | cons x L ih => cases M with
    | nil => simp at e
    | cons y M =>
      simp only [List.map_cons, List.cons.injEq] at e
      rw [ch_cons] at h ⊢
      refine ⟨ih e.2 h.1, fun z hz => ?_⟩
      cases M with
      | nil => simp at hz
      | cons u M => cases L with
        | nil => simp at e
        | cons v L =>
          simp only [List.map_cons, List.cons.injEq] at e
          simp at hz
          subst hz
          have := h.2 v rfl
          rw [← e.1, ← e.2.1]; exact this
theorem ch_sh (d : Int) (C : List Nd) (h : Ch C) : Ch (C.map (shN d)) := by
  induction C with
  | nil => trivial
  | cons x C ih =>
    rw [List.map_cons, ch_cons]
    rw [ch_cons] at h
    refine ⟨ih h.1, fun z hz => ?_⟩
    cases C with
    | nil => simp at hz
    | cons y C =>
      simp at hz
      subst hz
      have := h.2 y rfl
      show y.depth + d ≤ x.depth + d + 1
      omega
theorem last_mem {l : List Nd} {a : Nd} (h : l.getLast? = some a) : a ∈ l := List.mem_of_getLast? h
theorem head_mem {l : List Nd} {a : Nd} (h : l.head? = some a) : a ∈ l := List.mem_of_head? h
theorem seg_eq (L : List Nd) (a b : Nat) : (L.drop a).take (b - a) = Dist.sg L a b := by unfold Dist.sg; rw [List.drop_take]
theorem cut3 (L : List Nd) (a b : Nat) (h : a ≤ b) : L = L.take a ++ (Dist.sg L a b ++ L.drop b) := by
  have h1 := Dist.sg_app L 0 a b (Nat.zero_le _) h
  have h2 : Dist.sg L 0 a = L.take a := by simp [Dist.sg]
  have h3 : Dist.sg L 0 b = L.take b := by simp [Dist.sg]
  rw [h2, h3] at h1
  rw [← List.append_assoc, ← h1, List.take_append_drop]
theorem drop1_app {A B : List Nd} (h : A ≠ []) : (A ++ B).drop 1 = A.drop 1 ++ B := by
  cases A with
  | nil => exact absurd rfl h
  | cons x A => rfl
theorem sh_back (C : List Nd) : (C.map (shN 1)).map (shN (-1)) = C := by
  rw [List.map_map]
  conv => rhs; rw [← List.map_id C]
  refine List.map_congr_left fun x _ => ?_
  simp only [Function.comp_def, shN, id]
  cases x
  simp only [Nd.mk.injEq, true_and]
  omega
/-- A node goes. -/
theorem del_dist {L L' : List Nd} {k : Nat} (hc : Ch L) (h : remN L k = some L') : Ch L' ∧ L' ≠ [] ∧ Dist.dl (foN L) (foN L') ≤ 1 := by
  unfold remN at h
  split at h
  · cases h
  rename_i hk
  have hk1 : 1 ≤ k := by omega
  have hkl : k < L.length := by omega
  cases h
  have hs := subE_sub hkl
  have hlt := hs.lt
  have hle := hs.le
  rw [seg_eq]
  obtain ⟨x, hx⟩ : ∃ x, L[k]? = some x := ⟨_, List.getElem?_eq_getElem hkl⟩
  have eL : L = L.take k ++ (x :: (Dist.sg L (k + 1) (subE L k) ++ L.drop (subE L k))) := by
    have h1 := cut3 L k (subE L k) (by omega)
    rw [Dist.sg_cons L k (subE L k) x (by omega) hx] at h1
    exact h1
  have hC : ∀ c ∈ Dist.sg L (k + 1) (subE L k), x.depth < c.depth := fun c hc' => by
    obtain ⟨i, h1, h2, h3⟩ := Dist.sg_mem hc'
    exact hs.deep x c i (by omega) h2 hx h3
  have hD : ∀ y, (L.drop (subE L k)).head? = some y → y.depth ≤ x.depth := fun y hy => by
    rw [List.head?_drop] at hy
    exact hs.stop x y hx hy
  have hne : L.take k ≠ [] := by
    intro e
    have := congrArg List.length e
    rw [List.length_take, List.length_nil] at this
    omega
  generalize Dist.sg L (k + 1) (subE L k) = C at *
  generalize L.drop (subE L k) = D at *
  generalize L.take k = A at *
  subst eL
  rw [ch_app, ch_cons, ch_app] at hc
  obtain ⟨c1, ⟨⟨c2, c3, c4⟩, c5⟩, c6⟩ := hc
  have hC1 : ∀ c, C.head? = some c → c.depth ≤ x.depth + 1 := fun c hc' => c5 c (by cases C with
    | nil => simp at hc'
    | cons u C => simpa using hc')
  refine ⟨?_, by simp [hne], ?_⟩
  · rw [List.append_assoc, ch_app, ch_app]
    refine ⟨c1, ⟨ch_sh _ _ c2, c3, fun a b ha hb => ?_⟩, fun a b ha hb => ?_⟩
    · obtain ⟨c, hc', rfl⟩ := List.mem_map.1 (last_mem ha)
      have h1 := hC c hc'
      have h2 := hD b hb
      show b.depth ≤ c.depth + -1 + 1
      omega
    · have hxa := c6 a x ha rfl
      cases C with
      | nil => have := hD b (by simpa using hb); omega
      | cons c C =>
        simp at hb
        subst hb
        have := hC1 c rfl
        show c.depth + -1 ≤ a.depth + 1
        omega
  · refine Dist.dl_le ?_
    unfold foN
    rw [drop1_app hne, List.append_assoc, drop1_app hne]
    exact ed_del Nd.depth lab (shN (-1)) (fun z => rfl) (fun z => rfl) x C hC hC1 _ _ D (Nat.le_refl _) hD
theorem past_facts {L : List Nd} {p q : Nat} {x : Nd} (hp : L[p]? = some x) : ∀ (n a : Nat), p < a → a ≤ subE L p → (∀ y, L[a]? = some y → y.depth ≤ x.depth + 1) → (pastE L (subE L p) n a).2 = true → q = (pastE L (subE L p) n a).1 → a ≤ q ∧ q ≤ subE L p ∧ ∀ y, L[q]? = some y → y.depth ≤ x.depth + 1 := by
  have hpl := (List.getElem?_eq_some_iff.1 hp).1
  intro n
  induction n with
  | zero => intro a h1 h2 h3 _ hq; rw [hq]; exact ⟨Nat.le_refl _, h2, h3⟩
  | succ n ih =>
    intro a h1 h2 h3 h4 hq
    rw [pastE] at h4 hq
    by_cases hla : subE L p ≤ a
    · rw [if_pos hla] at h4; cases h4
    rw [if_neg hla] at h4 hq
    have hl := (subE_le hpl).2
    have hs := subE_sub (l := L) (k := a) (by omega)
    have hin := hs.inside (subE_sub hpl) h1 (by omega)
    have hlt := hs.lt
    obtain ⟨y, hy⟩ : ∃ y, L[a]? = some y := ⟨_, List.getElem?_eq_getElem (by omega)⟩
    have := ih (subE L a) (by omega) hin (fun z hz => by have := hs.stop y z hy hz; have := h3 y hy; omega) h4 hq
    exact ⟨by omega, this.2⟩
/-- A node comes. -/
theorem ins_dist {L L' : List Nd} {p i n : Nat} {b : Bool} {t : ByteArray} (hc : Ch L) (h : insN L p i n b t = some L') : Ch L' ∧ L' ≠ [] ∧ Dist.dl (foN L) (foN L') ≤ 1 := by
  unfold insN at h
  split at h
  · cases h
  rename_i x hx
  split at h
  · cases h
  split at h
  · cases h
  split at h
  · cases h
  rename_i hpast
  have hpl := (List.getElem?_eq_some_iff.1 hx).1
  have hs := subE_sub hpl
  have hlt := hs.lt
  have hle := hs.le
  have q1 : (pastE L (subE L p) i (p + 1)).2 = true := by
    cases hq : (pastE L (subE L p) i (p + 1)).2 with
    | true => rfl
    | false => exact absurd (.inl hq) hpast
  have q2 : (pastE L (subE L p) n (pastE L (subE L p) i (p + 1)).1).2 = true := by
    cases hq : (pastE L (subE L p) n (pastE L (subE L p) i (p + 1)).1).2 with
    | true => rfl
    | false => exact absurd (.inr hq) hpast
  have hfirst : ∀ y, L[p + 1]? = some y → y.depth ≤ x.depth + 1 := fun y hy => by
    have e := cut3 L (p + 1) (p + 1) (Nat.le_refl _)
    rw [Dist.sg_self, List.nil_append] at e
    rw [e, ch_app] at hc
    refine hc.2.2 x y ?_ (by rw [List.head?_drop]; exact hy)
    rw [List.getLast?_take]
    simp [hx]
  obtain ⟨a, ha⟩ : ∃ a, a = (pastE L (subE L p) i (p + 1)).1 := ⟨_, rfl⟩
  obtain ⟨a1, a2, a3⟩ := past_facts hx i (p + 1) (by omega) (by omega) hfirst q1 ha
  rw [← ha] at h q2
  obtain ⟨e, he⟩ : ∃ e, e = (pastE L (subE L p) n a).1 := ⟨_, rfl⟩
  obtain ⟨e1, e2, e3⟩ := past_facts hx n a (by omega) a2 a3 q2 he
  rw [← he, seg_eq] at h
  cases h
  have eL := cut3 L a e e1
  have hC : ∀ c ∈ Dist.sg L a e, x.depth < c.depth := fun c hc' => by
    obtain ⟨j, h1, h2, h3⟩ := Dist.sg_mem hc'
    exact hs.deep x c j (by omega) (by omega) hx h3
  have hCh : ∀ c, (Dist.sg L a e).head? = some c → c.depth ≤ x.depth + 1 := fun c hc' => a3 c (Dist.sg_head hc').2
  have hD : ∀ y, (L.drop e).head? = some y → y.depth ≤ x.depth + 1 := fun y hy => by
    rw [List.head?_drop] at hy; exact e3 y hy
  have hA : ∀ y, (L.take a).getLast? = some y → x.depth ≤ y.depth := fun y hy => by
    rw [List.getLast?_take, if_neg (by omega)] at hy
    have hy' : L[a - 1]? = some y := by
      rw [List.getElem?_eq_getElem (by omega)] at hy ⊢
      simpa using hy
    rcases Nat.lt_or_ge p (a - 1) with r | r
    · have := hs.deep x y (a - 1) r (by omega) hx hy'; omega
    · have : a - 1 = p := by omega
      rw [this, hx] at hy'
      cases hy'; exact Int.le_refl _
  have hne : L.take a ≠ [] := by
    intro e
    have := congrArg List.length e
    rw [List.length_take, List.length_nil] at this
    omega
  generalize Dist.sg L a e = C at *
  generalize L.drop e = D at *
  generalize L.take a = A at *
  subst eL
  rw [ch_app, ch_app] at hc
  obtain ⟨c1, ⟨c2, c3, c4⟩, c5⟩ := hc
  refine ⟨?_, by simp [hne], ?_⟩
  · rw [List.append_assoc, List.append_assoc, ch_app, List.cons_append, List.nil_append, ch_cons, ch_app]
    refine ⟨c1, ⟨⟨ch_sh _ _ c2, c3, fun u v hu hv => ?_⟩, fun u hu => ?_⟩, fun u v hu hv => ?_⟩
    · obtain ⟨c, hc', rfl⟩ := List.mem_map.1 (last_mem hu)
      have h1 := hC c hc'
      have h2 := hD v hv
      show v.depth ≤ c.depth + 1 + 1
      omega
    · cases C with
      | nil => have := hD u (by simpa using hu); show u.depth ≤ x.depth + 1 + 1; omega
      | cons c C =>
        simp at hu
        subst hu
        have := hCh c rfl
        show c.depth + 1 ≤ x.depth + 1 + 1
        omega
    · simp at hv
      subst hv
      have := hA u hu
      show x.depth + 1 ≤ u.depth + 1
      omega
  · rw [Dist.dl_symm]
    refine Dist.dl_le ?_
    unfold foN
    rw [List.append_assoc, List.append_assoc, drop1_app hne, drop1_app hne, List.cons_append, List.nil_append]
    have key := ed_del Nd.depth lab (shN (-1)) (fun z => rfl) (fun z => rfl) ⟨b, t, x.depth + 1⟩ (C.map (shN 1)) (fun z hz => by
      obtain ⟨c, hc', rfl⟩ := List.mem_map.1 hz
      have := hC c hc'
      show x.depth + 1 < c.depth + 1
      omega) (fun z hz => by
      cases C with
      | nil => simp at hz
      | cons c C =>
        simp at hz
        subst hz
        have := hCh c rfl
        show c.depth + 1 ≤ x.depth + 1 + 1
        omega) _ (A.drop 1) D (Nat.le_refl _) hD
    rw [sh_back] at key
    exact key
/-- A node gets another label. -/
theorem ren_dist {L L' : List Nd} {k : Nat} {b : Bool} {t : ByteArray} (hc : Ch L) (h : renN L k b t = some L') : Ch L' ∧ L' ≠ [] ∧ Dist.dl (foN L) (foN L') ≤ 1 := by
  unfold renN at h
  split at h
  · cases h
  rename_i hk
  split at h
  · cases h
  split at h
  · rename_i x hx
    cases h
    obtain ⟨j, rfl⟩ : ∃ j, k = j + 1 := ⟨k - 1, by omega⟩
    cases L with
    | nil => simp at hk
    | cons r T =>
      rw [List.getElem?_cons_succ] at hx
      have hmap : T.map Nd.depth = (T.set j ⟨b, t, x.depth⟩).map Nd.depth := by
        rw [List.map_set]
        apply List.ext_getElem?
        intro i
        rw [List.getElem?_set]
        split
        · rename_i e
          subst e
          rw [List.getElem?_map, hx]
          simp [(List.getElem?_eq_some_iff.1 hx).1]
        · rfl
      rw [List.set_cons_succ]
      refine ⟨ch_depth (L := r :: T) (by rw [List.map_cons, List.map_cons, hmap]) hc, by simp, ?_⟩
      refine Nat.le_trans (Dist.dl_le (ed_same Nd.depth lab _ T (T.set j ⟨b, t, x.depth⟩) (Nat.le_refl _) hmap)) ?_
      rw [List.map_set]
      exact parts_set _ _ _
  · cases h
theorem step_dist {L L' : List Nd} {st : Stp} (hc : Ch L) (h : stepN L st = some L') : Ch L' ∧ L' ≠ [] ∧ Dist.dl (foN L) (foN L') ≤ 1 := by
  cases st with
  | ren k b t => exact ren_dist hc h
  | del k => exact del_dist hc h
  | ins p i n b t => exact ins_dist hc h

end Go.Proofs.Ytdaneedflpfeaaa
