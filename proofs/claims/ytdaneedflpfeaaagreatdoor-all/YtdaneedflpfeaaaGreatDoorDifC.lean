import Derived.Test.YtdaneedflpfeaaaGreatDoorDistF
import Derived.Test.YtdaneedflpfeaaaGreatDoorPatV
namespace Go.Proofs.YtdaneedflpfeaaaGreatDoor
set_option maxRecDepth 100000
open Go.RowKit

/-! ## What stays of a tree when nodes go -/
/-- What stands deeper than d comes up by one. -/
def cutB (d : Int) : List Nd → List Nd
  | [] => []
  | x :: l => if d < x.depth then shN (-1) x :: cutB d l else x :: l
/-- What stays of the nodes from number k on: lb tells a node's new label, or that it goes. -/
def lefts (lb : Nat → Option (Bool × ByteArray)) : Nat → List Nd → List Nd
  | _, [] => []
  | k, x :: l => match lb k with
    | none => cutB x.depth (lefts lb (k + 1) l)
    | some y => ⟨y.1, y.2, x.depth⟩ :: lefts lb (k + 1) l
theorem lefts_none {lb : Nat → Option (Bool × ByteArray)} {k : Nat} (h : lb k = none) (x : Nd) (l : List Nd) : lefts lb k (x :: l) = cutB x.depth (lefts lb (k + 1) l) := by rw [lefts, h]
theorem lefts_some {lb : Nat → Option (Bool × ByteArray)} {k : Nat} {y : Bool × ByteArray} (h : lb k = some y) (x : Nd) (l : List Nd) : lefts lb k (x :: l) = ⟨y.1, y.2, x.depth⟩ :: lefts lb (k + 1) l := by rw [lefts, h]
/-- Each node at most one deeper than the one ahead of it. -/
def CH : Int → List Nd → Prop
  | _, [] => True
  | p, y :: l => y.depth ≤ p + 1 ∧ CH y.depth l
theorem cut_ch (d : Int) (T : List Nd) : ∀ q p, CH q T → d ≤ q → q ≤ p + 1 → CH p (cutB d T) := by
  induction T with
  | nil => intro q p _ _ _; trivial
  | cons t T ih =>
    intro q p h h1 h2
    rw [cutB]
    split
    · next hd => exact ⟨by have := h.1; show t.depth + -1 ≤ p + 1; omega, ih t.depth _ h.2 (by omega) (by show t.depth ≤ t.depth + -1 + 1; omega)⟩
    · next hd => exact ⟨by have := h.1; omega, h.2⟩
theorem lefts_ch (lb : Nat → Option (Bool × ByteArray)) (l : List Nd) : ∀ k p, CH p l → CH p (lefts lb k l) := by
  induction l with
  | nil => intro k p _; trivial
  | cons x l ih =>
    intro k p h
    cases hk : lb k with
    | none => rw [lefts_none hk]; exact cut_ch _ _ x.depth p (ih (k + 1) _ h.2) (Int.le_refl _) h.1
    | some y => rw [lefts_some hk]; exact ⟨h.1, ih _ _ h.2⟩
/-- All at least so deep. -/
def GE (D : Int) (l : List Nd) : Prop := ∀ x ∈ l, D ≤ x.depth
theorem GE.cons {D : Int} {x : Nd} {l : List Nd} (h : GE D (x :: l)) : D ≤ x.depth ∧ GE D l := ⟨h x (by simp), fun y hy => h y (by simp [hy])⟩
theorem GE.mk {D : Int} {x : Nd} {l : List Nd} (h : D ≤ x.depth) (h' : GE D l) : GE D (x :: l) := fun y hy => by
  rcases List.mem_cons.1 hy with rfl | hy
  · exact h
  · exact h' y hy
theorem GE.app {D : Int} {l m : List Nd} (h : GE D l) (h' : GE D m) : GE D (l ++ m) := fun y hy => by
  rcases List.mem_append.1 hy with hy | hy
  · exact h y hy
  · exact h' y hy
theorem cut_ge {D d : Int} (hd : D ≤ d) {T : List Nd} (h : GE D T) : GE D (cutB d T) := by
  induction T with
  | nil => exact h
  | cons t T ih =>
    rw [cutB]
    split
    · next q => exact GE.mk (by show D ≤ t.depth + -1; omega) (ih h.cons.2)
    · exact h
theorem lefts_ge {D : Int} (lb : Nat → Option (Bool × ByteArray)) (l : List Nd) : ∀ k, GE D l → GE D (lefts lb k l) := by
  induction l with
  | nil => intro k h; exact h
  | cons x l ih =>
    intro k h
    cases hk : lb k with
    | none => rw [lefts_none hk]; exact cut_ge h.cons.1 (ih _ h.cons.2)
    | some y => rw [lefts_some hk]; exact GE.mk h.cons.1 (ih _ h.cons.2)
/-- The first stands no deeper than D. -/
def Low (D : Int) (l : List Nd) : Prop := ∀ y, l.head? = some y → y.depth ≤ D
theorem low_nil (D : Int) : Low D [] := fun y h => by simp at h
theorem low_cons {D : Int} {x : Nd} (l : List Nd) (h : x.depth ≤ D) : Low D (x :: l) := fun y hy => by simp at hy; subst hy; exact h
theorem CH.low {p : Int} {l : List Nd} (h : CH p l) : Low (p + 1) l := by
  cases l with
  | nil => exact low_nil _
  | cons x l => exact low_cons l h.1
theorem CH.re {p q : Int} {l : List Nd} (h : CH p l) (h' : Low (q + 1) l) : CH q l := by
  cases l with
  | nil => trivial
  | cons x l => exact ⟨h' x rfl, h.2⟩
theorem cut_app (d : Int) (P Q : List Nd) (hQ : Low d Q) : cutB d (P ++ Q) = cutB d P ++ Q := by
  induction P with
  | nil =>
    cases Q with
    | nil => rfl
    | cons q Q => show cutB d (q :: Q) = q :: Q; rw [cutB, if_neg (by have := hQ q rfl; omega)]
  | cons x P ih =>
    rw [List.cons_append, cutB, cutB]
    split
    · rw [ih]; rfl
    · rfl
theorem cut_all (d : Int) (P : List Nd) (h : GE (d + 1) P) : cutB d P = P.map (shN (-1)) := by
  induction P with
  | nil => rfl
  | cons x P ih => rw [cutB, if_pos (by have := h.cons.1; omega), ih h.cons.2]; rfl
theorem lefts_low {p : Int} (lb : Nat → Option (Bool × ByteArray)) (k : Nat) {D : Int} {B : List Nd} (h : CH p B) (hB : Low D B) : Low D (lefts lb k B) := by
  have := (lefts_ch lb B k (D - 1) (h.re (by rw [Int.sub_add_cancel]; exact hB))).low
  rw [Int.sub_add_cancel] at this
  exact this
theorem lefts_app (lb : Nat → Option (Bool × ByteArray)) {D : Int} (A B : List Nd) : ∀ k, GE (D + 1) A → Low D (lefts lb (k + A.length) B) → lefts lb k (A ++ B) = lefts lb k A ++ lefts lb (k + A.length) B := by
  induction A with
  | nil => intro k _ _; rfl
  | cons a A ih =>
    intro k hA hB
    rw [List.length_cons, show k + (A.length + 1) = k + 1 + A.length by omega] at hB ⊢
    rw [List.cons_append]
    have := ih (k + 1) hA.cons.2 hB
    cases hk : lb k with
    | none => rw [lefts_none hk, lefts_none hk, this, cut_app]; exact fun y hy => by have := hB y hy; have := hA.cons.1; omega
    | some y => rw [lefts_some hk, lefts_some hk, this]; rfl
/-- The forest of nodes, its labels. -/
def foL (l : List Nd) : Dist.Fo (Bool × ByteArray) := (Dist.fo Nd.depth l).map lab
theorem cut_eq (d : Int) (T : List Nd) : cutB d T = (T.takeWhile fun y => decide (d < y.depth)).map (shN (-1)) ++ T.dropWhile fun y => decide (d < y.depth) := by
  induction T with
  | nil => rfl
  | cons t T ih =>
    rw [cutB]
    by_cases h : d < t.depth
    · rw [if_pos h, ih, List.takeWhile_cons, List.dropWhile_cons, if_pos (by simpa using h), if_pos (by simpa using h)]; rfl
    · rw [if_neg h, List.takeWhile_cons, List.dropWhile_cons, if_neg (by simpa using h), if_neg (by simpa using h)]; rfl
theorem foL_cut (d : Int) (T : List Nd) : foL (cutB d T) = foL T := by
  obtain ⟨e, h1, h2⟩ := Dist.while_parts (fun y : Nd => decide (d < y.depth)) T
  rw [cut_eq]
  generalize T.takeWhile (fun y => decide (d < y.depth)) = P at *
  generalize T.dropWhile (fun y => decide (d < y.depth)) = Q at *
  subst e
  have hP : ∀ x ∈ P, d < x.depth := fun x hx => by simpa using h1 x hx
  have hQ : ∀ y, Q.head? = some y → y.depth ≤ d := fun y hy => by have := h2 y hy; simpa using this
  unfold foL
  rw [Dist.fo_app Nd.depth _ (P.map (shN (-1))) Q (Nat.le_refl _) (fun x hx y hy => by
      obtain ⟨z, hz, rfl⟩ := List.mem_map.1 hx
      have := hP z hz; have := hQ y hy
      show y.depth ≤ z.depth + -1; omega), Dist.fo_app Nd.depth _ P Q (Nat.le_refl _) (fun x hx y hy => by have := hP x hx; have := hQ y hy; omega),
    Dist.fo_map Nd.depth Nd.depth (shN (-1)) (fun x y => by show x.depth + -1 < y.depth + -1 ↔ _; omega) _ P (Nat.le_refl _), Dist.map_app, Dist.map_app, Dist.map_map]
  rfl
theorem foL_cons (x : Nd) (A B : List Nd) (hA : GE (x.depth + 1) A) (hB : Low x.depth B) : foL (x :: (A ++ B)) = .cons (lab x) (foL A) (foL B) := by
  unfold foL
  rw [Dist.fo_cons Nd.depth x A B (fun y hy => by have := hA y hy; omega) hB]; rfl
theorem foL_e : foL [] = .nil := by unfold foL; rw [Dist.fo]; rfl
theorem foL_nil {l : List Nd} (h : foL l = .nil) : l = [] := by
  have := congrArg Dist.Fo.size h
  unfold foL at this
  rw [Dist.map_size, Dist.fo_size _ _ _ (Nat.le_refl _)] at this
  exact List.eq_nil_of_length_eq_zero this
theorem foL_inj : ∀ (n : Nat) (l m : List Nd) (D : Int), l.length ≤ n → GE D l → GE D m → CH (D - 1) l → CH (D - 1) m → foL l = foL m → l = m := by
  intro n
  induction n with
  | zero =>
    intro l m D hn _ _ _ _ h
    have : l = [] := List.eq_nil_of_length_eq_zero (by omega)
    subst this
    exact (foL_nil (h.symm.trans foL_e)).symm
  | succ n ih =>
    intro l m D hn g1 g2 c1 c2 h
    cases l with
    | nil => exact (foL_nil (h.symm.trans foL_e)).symm
    | cons x l =>
      cases m with
      | nil => exact foL_nil (h.trans foL_e)
      | cons y m =>
        obtain ⟨e1, a1, b1⟩ := Dist.while_parts (fun z : Nd => decide (x.depth < z.depth)) l
        obtain ⟨e2, a2, b2⟩ := Dist.while_parts (fun z : Nd => decide (y.depth < z.depth)) m
        have dx : x.depth = D := by have := g1.cons.1; have := c1.1; omega
        have dy : y.depth = D := by have := g2.cons.1; have := c2.1; omega
        have hle := congrArg List.length e1
        rw [List.length_append] at hle
        generalize l.takeWhile (fun z => decide (x.depth < z.depth)) = P at *
        generalize l.dropWhile (fun z => decide (x.depth < z.depth)) = Q at *
        generalize m.takeWhile (fun z => decide (y.depth < z.depth)) = P' at *
        generalize m.dropWhile (fun z => decide (y.depth < z.depth)) = Q' at *
        subst e1 e2
        have hP : GE (x.depth + 1) P := fun z hz => by have := a1 z hz; simp at this; omega
        have hP' : GE (y.depth + 1) P' := fun z hz => by have := a2 z hz; simp at this; omega
        have hQ : Low x.depth Q := fun z hz => by have := b1 z hz; simpa using this
        have hQ' : Low y.depth Q' := fun z hz => by have := b2 z hz; simpa using this
        rw [foL_cons x P Q hP hQ, foL_cons y P' Q' hP' hQ'] at h
        injection h with h1 h2 h3
        have chP : ∀ (P Q : List Nd) q, CH q (P ++ Q) → CH q P ∧ ∃ r, CH r Q := by
          intro P
          induction P with
          | nil => intro Q q h; exact ⟨trivial, q, h⟩
          | cons z P ih => intro Q q h; have := ih Q _ h.2; exact ⟨⟨h.1, this.1⟩, this.2⟩
        obtain ⟨p1, r1, q1⟩ := chP _ _ _ c1.2
        obtain ⟨p2, r2, q2⟩ := chP _ _ _ c2.2
        rw [dx] at hP hQ p1
        rw [dy] at hP' hQ' p2
        simp only [List.length_cons] at hn
        rw [ih P P' (D + 1) (by omega) hP hP' (p1.re (by have := p1.low; rw [Int.sub_add_cancel]; exact this)) (p2.re (by have := p2.low; rw [Int.sub_add_cancel]; exact this)) h2,
          ih Q Q' D (by omega) (fun z hz => g1.cons.2 z (by simp [hz])) (fun z hz => g2.cons.2 z (by simp [hz])) (q1.re (by rw [Int.sub_add_cancel]; exact hQ)) (q2.re (by rw [Int.sub_add_cancel]; exact hQ')) h3]
        cases x; cases y
        simp only [lab, Prod.mk.injEq] at h1
        simp only at dx dy
        rw [h1.1, h1.2, dx, dy]
theorem ch_app' {q : Int} {P Q : List Nd} (h : CH q (P ++ Q)) : CH q P ∧ ∃ r, CH r Q := by
  induction P generalizing q with
  | nil => exact ⟨trivial, q, h⟩
  | cons z P ih => have := ih h.2; exact ⟨⟨h.1, this.1⟩, this.2⟩
theorem ch_drop {q : Int} {L : List Nd} (h : CH q L) (k : Nat) : ∃ r, CH r (L.drop k) := by
  rw [← List.take_append_drop k L] at h
  exact (ch_app' h).2
theorem ch_sg {q : Int} {L : List Nd} (h : CH q L) (a b : Nat) : ∃ r, CH r (Dist.sg L a b) := by
  unfold Dist.sg
  rw [← List.take_append_drop b L] at h
  exact ch_drop (ch_app' h).1 a
theorem ch_at {q : Int} {L : List Nd} (h : CH q L) {k : Nat} {x : Nd} (hx : L[k]? = some x) : CH x.depth (L.drop (k + 1)) := by
  obtain ⟨r, hr⟩ := ch_drop h k
  have hk : k < L.length := (List.getElem?_eq_some_iff.1 hx).1
  rw [List.drop_eq_getElem_cons hk] at hr
  rw [List.getElem?_eq_getElem hk] at hx
  cases hx
  exact hr.2

/-! ## Which nodes become which -/
def lbF (M : List Nd) (mf : Nat → Nat) (k : Nat) : Option (Bool × ByteArray) := if mf k = 0 then none else (M[mf k]?).map lab
def lbT (M : List Nd) (mt : Nat → Nat) (l : Nat) : Option (Bool × ByteArray) := if mt l = 0 then none else (M[l]?).map lab
inductive PM (L M : List Nd) (mf mt : Nat → Nat) : Nat → Nat → Nat → Nat → Nat → Prop
  | come {b a' b' : Nat} : (∀ j, a' ≤ j → j < b' → mt j = 0) → a' ≤ b' → b ≤ L.length → b' ≤ M.length → PM L M mf mt b b a' b' (b' - a')
  | go {a b b' : Nat} : (∀ i, a ≤ i → i < b → mf i = 0) → a ≤ b → b ≤ L.length → b' ≤ M.length → PM L M mf mt a b b' b' (b - a)
  | del {a b a' b' n : Nat} : a < b → mf a = 0 → PM L M mf mt (a + 1) b a' b' n → PM L M mf mt a b a' b' (n + 1)
  | ins {a b a' b' n : Nat} : a' < b' → mt a' = 0 → PM L M mf mt a b (a' + 1) b' n → PM L M mf mt a b a' b' (n + 1)
  | mat {a b a' b' n m : Nat} {x y : Nd} : 0 < a → 0 < a' → L[a]? = some x → M[a']? = some y → mf a = a' → mt a' = a → subE L a ≤ b → subE M a' ≤ b' →
      PM L M mf mt (a + 1) (subE L a) (a' + 1) (subE M a') n → PM L M mf mt (subE L a) b (subE M a') b' m → PM L M mf mt a b a' b' (n + m + Dist.rel (lab x) (lab y))
theorem PM.cast {L M : List Nd} {mf mt : Nat → Nat} {a b a' b' n m : Nat} (h : PM L M mf mt a b a' b' n) (e : n = m) : PM L M mf mt a b a' b' m := e ▸ h
theorem PM.bounds {L M : List Nd} {mf mt : Nat → Nat} {a b a' b' n : Nat} (h : PM L M mf mt a b a' b' n) : a ≤ b ∧ b ≤ L.length ∧ a' ≤ b' ∧ b' ≤ M.length := by
  induction h with
  | come _ h1 h2 h3 => omega
  | go _ h1 h2 h3 => omega
  | del _ _ _ ih => omega
  | ins _ _ _ ih => omega
  | mat _ _ hx hy _ _ h1 h2 _ _ ih1 ih2 => have := (List.getElem?_eq_some_iff.1 hx).1; have := (List.getElem?_eq_some_iff.1 hy).1; omega
theorem lefts_gone {lb : Nat → Option (Bool × ByteArray)} (l : List Nd) : ∀ k, (∀ i, k ≤ i → i < k + l.length → lb i = none) → lefts lb k l = [] := by
  induction l with
  | nil => intro k _; rfl
  | cons x l ih =>
    intro k h
    rw [lefts_none (h k (Nat.le_refl _) (by simp)), ih (k + 1) (fun i h1 h2 => h i (by omega) (by simp; omega))]
    rfl
theorem sub_ge {L : List Nd} {k : Nat} {x : Nd} (hx : L[k]? = some x) : GE (x.depth + 1) (Dist.sg L (k + 1) (subE L k)) := fun y hy => by
  obtain ⟨i, h1, h2, h3⟩ := Dist.sg_mem hy
  have := (subE_sub (List.getElem?_eq_some_iff.1 hx).1).deep x y i (by omega) h2 hx h3
  omega
theorem sub_low {L : List Nd} {k b : Nat} {x : Nd} (hx : L[k]? = some x) : Low x.depth (Dist.sg L (subE L k) b) := fun y hy =>
  (subE_sub (List.getElem?_eq_some_iff.1 hx).1).stop x y hx (Dist.sg_head hy).2
/-- What stays of a node that stays, and of what stands behind it. -/
theorem lefts_split {q : Int} {L : List Nd} (hL : CH q L) (lb : Nat → Option (Bool × ByteArray)) {k b : Nat} {x : Nd} (hx : L[k]? = some x) (hb : subE L k ≤ b) :
    lefts lb (k + 1) (Dist.sg L (k + 1) b) = lefts lb (k + 1) (Dist.sg L (k + 1) (subE L k)) ++ lefts lb (subE L k) (Dist.sg L (subE L k) b) ∧ GE (x.depth + 1) (lefts lb (k + 1) (Dist.sg L (k + 1) (subE L k))) ∧ Low x.depth (lefts lb (subE L k) (Dist.sg L (subE L k) b)) := by
  have hk := (List.getElem?_eq_some_iff.1 hx).1
  have hs := subE_le hk
  obtain ⟨r, hr⟩ := ch_sg hL (subE L k) b
  have h3 := lefts_low lb (subE L k) hr (sub_low (b := b) hx)
  refine ⟨?_, lefts_ge lb _ _ (sub_ge hx), h3⟩
  have hlen : k + 1 + (Dist.sg L (k + 1) (subE L k)).length = subE L k := by rw [Dist.sg_len _ _ _ hs.2]; omega
  rw [Dist.sg_app L (k + 1) (subE L k) b hs.1 hb, lefts_app lb (D := x.depth) _ _ _ (sub_ge hx) (by rw [hlen]; exact h3), hlen]
theorem pm_same {q q' : Int} {L M : List Nd} (hL : CH q L) (hM : CH q' M) {mf mt : Nat → Nat} {a b a' b' n : Nat} (h : PM L M mf mt a b a' b' n) : foL (lefts (lbF M mf) a (Dist.sg L a b)) = foL (lefts (lbT M mt) a' (Dist.sg M a' b')) := by
  induction h with
  | @come b a' b' hz h1 h2 h3 =>
    rw [Dist.sg_self L, lefts_gone (Dist.sg M a' b') a' (fun i i1 i2 => by rw [Dist.sg_len _ _ _ h3] at i2; rw [lbT, if_pos (hz i i1 (by omega))])]
    rfl
  | @go a b b' hz h1 h2 h3 =>
    rw [Dist.sg_self M, lefts_gone (Dist.sg L a b) a (fun i i1 i2 => by rw [Dist.sg_len _ _ _ h2] at i2; rw [lbF, if_pos (hz i i1 (by omega))])]
    rfl
  | @del a b a' b' n h1 h2 h3 ih =>
    have := h3.bounds
    rw [Dist.sg_cons L a b _ h1 (List.getElem?_eq_getElem (by omega)), lefts_none (by rw [lbF, if_pos h2]), foL_cut]
    exact ih
  | @ins a b a' b' n h1 h2 h3 ih =>
    have := h3.bounds
    rw [Dist.sg_cons M a' b' _ h1 (List.getElem?_eq_getElem (by omega)), lefts_none (by rw [lbT, if_pos h2]), foL_cut]
    exact ih
  | @mat a b a' b' n m x y h0 h0' hx hy e1 e2 s1 s2 p1 p2 ih1 ih2 =>
    have hb := p2.bounds
    have hk := (List.getElem?_eq_some_iff.1 hx).1
    have hk' := (List.getElem?_eq_some_iff.1 hy).1
    have u1 := subE_le hk
    have u2 := subE_le hk'
    obtain ⟨a1, a2, a3⟩ := lefts_split hL (lbF M mf) hx s1
    obtain ⟨c1, c2, c3⟩ := lefts_split hM (lbT M mt) hy s2
    rw [Dist.sg_cons L a b x (by omega) hx, Dist.sg_cons M a' b' y (by omega) hy, lefts_some (y := lab y) (by rw [lbF, if_neg (by omega), e1, hy]; rfl), lefts_some (y := lab y) (by rw [lbT, if_neg (by omega), hy]; rfl), a1, c1]
    rw [foL_cons ⟨(lab y).1, (lab y).2, x.depth⟩ _ _ a2 a3, foL_cons ⟨(lab y).1, (lab y).2, y.depth⟩ _ _ c2 c3, ih1, ih2]
    rfl
theorem pm_sub {L M : List Nd} {mf mt : Nat → Nat} {a b a' b' n : Nat} (h : PM L M mf mt a b a' b' n) : ∀ k, a ≤ k → k < b → mf k ≠ 0 → ∃ m, mf k < M.length ∧ PM L M mf mt (k + 1) (subE L k) (mf k + 1) (subE M (mf k)) m := by
  induction h with
  | come _ _ _ _ => intro k h1 h2; omega
  | go hz _ _ _ => intro k h1 h2 h3; exact absurd (hz k h1 h2) h3
  | @del a b a' b' n h1 h2 h3 ih =>
    intro k k1 k2 k3
    by_cases e : k = a
    · subst e; exact absurd h2 k3
    · exact ih k (by omega) k2 k3
  | ins _ _ _ ih => exact ih
  | @mat a b a' b' n m x y h0 h0' hx hy e1 e2 s1 s2 p1 p2 ih1 ih2 =>
    intro k k1 k2 k3
    rcases Nat.lt_trichotomy k a with q | q | q
    · omega
    · subst q
      exact ⟨n, by rw [e1]; exact (List.getElem?_eq_some_iff.1 hy).1, by rw [e1]; exact p1⟩
    · rcases Nat.lt_or_ge k (subE L a) with r | r
      · exact ih1 k (by omega) r k3
      · exact ih2 k r k2 k3

end Go.Proofs.YtdaneedflpfeaaaGreatDoor

namespace Go.Proofs.YtdaneedflpfeaaaGreatDoor
set_option maxRecDepth 100000
open Go.RowKit

/-! ## Steps on nodes, at a place -/
theorem goE_at (d : Int) (T : List Nd) : ∀ A : List Nd, goE (A ++ T) d A.length = A.length + (T.takeWhile fun y => decide (d < y.depth)).length := by
  induction T with
  | nil => intro A; rw [goE, dif_neg (by simp)]; rfl
  | cons t T ih =>
    intro A
    rw [goE, dif_pos (by simp)]
    have e : (A ++ t :: T)[A.length]'(by simp) = t := by simp
    rw [e, List.takeWhile_cons]
    by_cases h : d < t.depth
    · rw [if_pos h, if_pos (by simpa using h)]
      have := ih (A ++ [t])
      rw [List.append_assoc, List.length_append] at this
      simp only [List.cons_append, List.nil_append, List.length_cons, List.length_nil, Nat.zero_add] at this ⊢
      rw [this]; omega
    · rw [if_neg h, if_neg (by simpa using h)]; rfl
theorem subE_at (A : List Nd) (x : Nd) (T : List Nd) : subE (A ++ x :: T) A.length = A.length + 1 + (T.takeWhile fun y => decide (x.depth < y.depth)).length := by
  unfold subE
  rw [List.getElem?_append_right (Nat.le_refl _), Nat.sub_self]
  have := goE_at x.depth T (A ++ [x])
  rw [List.append_assoc, List.length_append] at this
  exact this
theorem rem_at (A : List Nd) (x : Nd) (T : List Nd) (hA : 1 ≤ A.length) : remN (A ++ x :: T) A.length = some (A ++ cutB x.depth T) := by
  have e := (Dist.while_parts (fun y : Nd => decide (x.depth < y.depth)) T).1
  rw [remN, if_neg (by simp only [List.length_append, List.length_cons]; omega), subE_at, cut_eq]
  generalize T.takeWhile (fun y => decide (x.depth < y.depth)) = P at *
  generalize T.dropWhile (fun y => decide (x.depth < y.depth)) = Q at *
  subst e
  have e1 : (A ++ x :: (P ++ Q)).take A.length = A := List.take_left
  have e2 : (A ++ x :: (P ++ Q)).drop (A.length + 1) = P ++ Q := by
    rw [List.drop_append]; simp
  have e3 : (A ++ x :: (P ++ Q)).drop (A.length + 1 + P.length) = Q := by
    rw [← List.drop_drop, e2]; exact List.drop_left
  rw [e1, e2, e3, show A.length + 1 + P.length - (A.length + 1) = P.length by omega, List.take_left, List.append_assoc]
theorem ren_at (A : List Nd) (x : Nd) (T : List Nd) (b : Bool) (t : ByteArray) (hA : 1 ≤ A.length) (hb : b = false → (T.takeWhile fun y => decide (x.depth < y.depth)) = []) : renN (A ++ x :: T) A.length b t = some (A ++ ⟨b, t, x.depth⟩ :: T) := by
  have hx : (A ++ x :: T)[A.length]? = some x := by rw [List.getElem?_append_right (Nat.le_refl _), Nat.sub_self]; rfl
  rw [renN, if_neg (by simp only [List.length_append, List.length_cons]; omega), if_neg ?_, hx]
  · simp only [List.set_append_right _ _ (Nat.le_refl _), Nat.sub_self, List.set_cons_zero]
  · rintro ⟨h1, h2⟩
    rw [subE_at, hb h1] at h2
    simp at h2
/-- How many stand at depth D. -/
def cntD (D : Int) (l : List Nd) : Nat := l.countP fun y => decide (y.depth = D)
theorem cntD_app (D : Int) (l m : List Nd) : cntD D (l ++ m) = cntD D l + cntD D m := List.countP_append
theorem cntD_deep {D : Int} {l : List Nd} (h : GE (D + 1) l) : cntD D l = 0 := by
  rw [cntD, List.countP_eq_zero]
  intro y hy
  have := h y hy
  simp; omega
theorem past_seg (lim : Nat) (D : Int) : ∀ (n : Nat) (S P Q : List Nd), S.length ≤ n → GE D S → CH (D - 1) S → Low D Q → P.length + S.length ≤ lim → pastE (P ++ (S ++ Q)) lim (cntD D S) P.length = (P.length + S.length, true) := by
  intro n
  induction n with
  | zero =>
    intro S P Q hS _ _ _ _
    have : S = [] := List.eq_nil_of_length_eq_zero (by omega)
    subst this
    rfl
  | succ n ih =>
    intro S P Q hS g c hQ hl
    cases S with
    | nil => rfl
    | cons s S =>
      have ds : s.depth = D := by have := g.cons.1; have := c.1; omega
      obtain ⟨e, h1, h2⟩ := Dist.while_parts (fun y : Nd => decide (s.depth < y.depth)) S
      generalize S.takeWhile (fun y => decide (s.depth < y.depth)) = A at *
      generalize S.dropWhile (fun y => decide (s.depth < y.depth)) = B at *
      subst e
      have hA : GE (D + 1) A := fun z hz => by have := h1 z hz; simp at this; omega
      have hB : Low D B := fun z hz => by have := h2 z hz; simp at this; omega
      have hcnt : cntD D (s :: (A ++ B)) = cntD D B + 1 := by
        rw [show s :: (A ++ B) = [s] ++ (A ++ B) from rfl, cntD_app, cntD_app, cntD_deep hA]
        have : cntD D [s] = 1 := by simp [cntD, ds]
        omega
      have hBQ : Low D (B ++ Q) := by
        cases B with
        | nil => exact hQ
        | cons b B => exact low_cons _ (hB b rfl)
      obtain ⟨r, hr⟩ := (ch_app' c.2).2
      have hsub : subE (P ++ (s :: (A ++ B) ++ Q)) P.length = P.length + 1 + A.length := by
        have := subE_at P s (A ++ (B ++ Q))
        rw [(Dist.while_split (fun y : Nd => decide (s.depth < y.depth)) A (B ++ Q) (fun y hy => by have := hA y hy; simp; omega) (fun y hy => by have := hBQ y hy; simp; omega)).1] at this
        rw [List.cons_append, List.append_assoc]
        exact this
      simp only [List.length_cons, List.length_append] at hS hl
      rw [hcnt, pastE, if_neg (by omega), hsub]
      have := ih B (P ++ s :: A) Q (by omega) (fun z hz => g.cons.2 z (by simp [hz])) (hr.re (by rw [Int.sub_add_cancel]; exact hB)) hQ (by simp only [List.length_append, List.length_cons]; omega)
      rw [List.length_append, List.length_cons] at this
      have e2 : P ++ s :: A ++ (B ++ Q) = P ++ (s :: (A ++ B) ++ Q) := by simp
      rw [e2, show P.length + (A.length + 1) = P.length + 1 + A.length by omega] at this
      rw [this]
      simp only [List.length_cons, List.length_append]
      congr 1; omega
theorem goE_ge (l : List Nd) (d : Int) (e k : Nat) (hk : k ≤ l.length) (h : ∀ i y, e ≤ i → i < k → l[i]? = some y → d < y.depth) (he : e ≤ k) : k ≤ goE l d e := by
  induction e using goE.induct l d with
  | case1 e h1 h2 ih =>
    rw [goE, dif_pos h1, if_pos h2]
    rcases Nat.lt_or_ge e k with q | q
    · exact ih (fun i y i1 => h i y (by omega)) q
    · have := (goE_le l d (e + 1) (by omega)).1; omega
  | case2 e h1 h2 =>
    rw [goE, dif_pos h1, if_neg h2]
    rcases Nat.lt_or_ge e k with q | q
    · exact absurd (h e _ (Nat.le_refl _) q (List.getElem?_eq_getElem h1)) h2
    · omega
  | case3 e h1 => rw [goE, dif_neg h1]; omega
theorem ins_at (P S U V : List Nd) (xp : Nd) (D : Int) (b : Bool) (t : ByteArray) (hin : xp.inner = true) (hD : xp.depth + 1 = D) (gS : GE D S) (cS : CH (D - 1) S) (gU : GE D U) (cU : CH (D - 1) U) (hV : Low D V) (hb : b = false → U = []) :
    insN (P ++ xp :: (S ++ (U ++ V))) P.length (cntD D S) (cntD D U) b t = some (P ++ xp :: (S ++ ⟨b, t, D⟩ :: (U.map (shN 1) ++ V))) := by
  have hx : (P ++ xp :: (S ++ (U ++ V)))[P.length]? = some xp := by rw [List.getElem?_append_right (Nat.le_refl _), Nat.sub_self]; rfl
  have hUV : Low D (U ++ V) := by
    cases U with
    | nil => exact hV
    | cons u U => exact low_cons _ (by have := cU.1; omega)
  have hlim : P.length + 1 + S.length + U.length ≤ subE (P ++ xp :: (S ++ (U ++ V))) P.length := by
    unfold subE
    rw [hx]
    refine goE_ge _ _ _ _ (by simp; omega) ?_ (by omega)
    intro i y h1 h2 hy
    rw [List.getElem?_append_right (by omega), show i - P.length = (i - P.length - 1) + 1 by omega, List.getElem?_cons_succ, ← List.append_assoc, List.getElem?_append_left (by simp; omega)] at hy
    have := (gS.app gU) y (List.mem_of_getElem? hy)
    omega
  have p1 := past_seg (subE (P ++ xp :: (S ++ (U ++ V))) P.length) D _ S (P ++ [xp]) (U ++ V) (Nat.le_refl _) gS cS hUV (by simp; omega)
  have p2 := past_seg (subE (P ++ xp :: (S ++ (U ++ V))) P.length) D _ U (P ++ [xp] ++ S) V (Nat.le_refl _) gU cU hV (by simp; omega)
  have q1 : P ++ [xp] ++ (S ++ (U ++ V)) = P ++ xp :: (S ++ (U ++ V)) := by simp
  have q2 : P ++ [xp] ++ S ++ (U ++ V) = P ++ xp :: (S ++ (U ++ V)) := by simp
  rw [q1, List.length_append, List.length_singleton] at p1
  rw [q2, List.length_append, List.length_append, List.length_singleton] at p2
  have t1 : (P ++ xp :: (S ++ (U ++ V))).take (P.length + 1 + S.length) = P ++ xp :: S := by
    rw [← q2, List.take_append_of_le_length (by simp; omega)]
    rw [List.take_of_length_le (by simp; omega)]; simp
  have t2 : (P ++ xp :: (S ++ (U ++ V))).drop (P.length + 1 + S.length) = U ++ V := by
    rw [← q2]; exact List.drop_left' (by simp; omega)
  have t3 : (P ++ xp :: (S ++ (U ++ V))).drop (P.length + 1 + S.length + U.length) = V := by
    rw [← List.drop_drop, t2]; exact List.drop_left
  unfold insN
  rw [hx]
  simp only [hin, p1, p2]
  rw [if_neg (by decide), if_neg ?_, if_neg (by decide), t1, t2, t3, show P.length + 1 + S.length + U.length - (P.length + 1 + S.length) = U.length by omega, List.take_left, hD]
  · simp
  · rintro ⟨h1, h2⟩
    rw [hb h2] at h1
    simp [cntD] at h1

/-! ## The nodes that go, and that become others: from the last to the first -/
def runS : List Nd → List Stp → Option (List Nd)
  | l, [] => some l
  | l, st :: r => (stepN l st).bind fun m => runS m r
theorem runS_app (r r' : List Stp) : ∀ l, runS l (r ++ r') = (runS l r).bind fun m => runS m r' := by
  induction r with
  | nil => intro l; rfl
  | cons st r ih =>
    intro l
    rw [List.cons_append, runS, runS]
    cases stepN l st with
    | none => rfl
    | some m => exact ih m
def stF (L : List Nd) (lb : Nat → Option (Bool × ByteArray)) (k : Nat) : List Stp := match lb k with
  | none => [.del k]
  | some y => if (L[k]?).map lab = some y then [] else [.ren k y.1 y.2]
def chg (L : List Nd) (lb : Nat → Option (Bool × ByteArray)) : Nat → List Stp
  | 0 => []
  | n + 1 => stF L lb (n + 1) ++ chg L lb n
theorem chg_run {q : Int} {L : List Nd} (hL : CH q L) (lb : Nat → Option (Bool × ByteArray)) (hleaf : ∀ k y, 0 < k → k < L.length → lb k = some y → y.1 = false → lefts lb (k + 1) (Dist.sg L (k + 1) (subE L k)) = []) :
    ∀ n, n < L.length → runS (L.take (n + 1) ++ lefts lb (n + 1) (L.drop (n + 1))) (chg L lb n) = some (L.take 1 ++ lefts lb 1 (L.drop 1)) := by
  intro n
  induction n with
  | zero => intro _; rfl
  | succ n ih =>
    intro hn
    have hx : L[n + 1]? = some L[n + 1] := List.getElem?_eq_getElem hn
    have ht : L.take (n + 1 + 1) = L.take (n + 1) ++ [L[n + 1]] := List.take_succ_eq_append_getElem hn
    have hd : L.drop (n + 1) = L[n + 1] :: L.drop (n + 1 + 1) := List.drop_eq_getElem_cons hn
    have hlen : (L.take (n + 1)).length = n + 1 := by rw [List.length_take]; omega
    have hIH := ih (by omega)
    rw [hd] at hIH
    rw [chg, runS_app, ht, List.append_assoc, List.singleton_append]
    generalize hxx : L[n + 1] = x at *
    have key : runS (L.take (n + 1) ++ x :: lefts lb (n + 1 + 1) (L.drop (n + 1 + 1))) (stF L lb (n + 1)) = some (L.take (n + 1) ++ lefts lb (n + 1) (x :: L.drop (n + 1 + 1))) := by
      unfold stF
      cases hk : lb (n + 1) with
      | none =>
        rw [lefts_none hk]
        have := rem_at (L.take (n + 1)) x (lefts lb (n + 1 + 1) (L.drop (n + 1 + 1))) (by omega)
        rw [hlen] at this
        simp only [runS, stepN, this, Option.bind_some]
      | some y =>
        rw [lefts_some hk]
        simp only
        split
        · next e =>
          rw [hx, Option.map_some, Option.some.injEq] at e
          rw [runS, ← e]; rfl
        · have := ren_at (L.take (n + 1)) x (lefts lb (n + 1 + 1) (L.drop (n + 1 + 1))) y.1 y.2 (by omega) (fun hb => by
            have e0 := hleaf (n + 1) y (by omega) hn hk hb
            have hsp := lefts_split hL lb hx (b := L.length) (subE_le hn).2
            have hsg : Dist.sg L (n + 1 + 1) L.length = L.drop (n + 1 + 1) := by unfold Dist.sg; rw [List.take_length]
            rw [hsg, e0] at hsp
            rw [hsp.1]
            have := Dist.while_split (fun y : Nd => decide (x.depth < y.depth)) [] _ (by simp) (fun y hy => by have := hsp.2.2 y hy; simp; omega)
            exact this.1)
          rw [hlen] at this
          simp only [runS, stepN, this, Option.bind_some]
    rw [key, Option.bind_some]
    exact hIH

end Go.Proofs.YtdaneedflpfeaaaGreatDoor

namespace Go.Proofs.YtdaneedflpfeaaaGreatDoor
set_option maxRecDepth 100000
open Go.RowKit

/-! ## The nodes that come: from the first to the last -/
/-- The last node up to p that stands less deep than d. -/
def parG (M : List Nd) (d : Int) : Nat → Nat
  | 0 => 0
  | p + 1 => match M[p + 1]? with
    | some x => if d ≤ x.depth then parG M d p else p + 1
    | none => 0
def dpt (M : List Nd) (l : Nat) : Int := match M[l]? with | some x => x.depth | none => 0
def parN (M : List Nd) (l : Nat) : Nat := parG M (dpt M l) l
theorem parG_spec (M : List Nd) (d : Int) : ∀ p, p < M.length → parG M d p ≤ p ∧ (∀ i y, parG M d p < i → i ≤ p → M[i]? = some y → d ≤ y.depth) ∧ (parG M d p = 0 ∨ ∀ y, M[parG M d p]? = some y → y.depth < d) := by
  intro p
  induction p with
  | zero => intro _; exact ⟨Nat.le_refl _, fun i y h1 h2 => by simp [parG] at h1; omega, .inl rfl⟩
  | succ p ih =>
    intro hp
    rw [parG, List.getElem?_eq_getElem hp]
    simp only
    split
    · next h =>
      obtain ⟨h1, h2, h3⟩ := ih (by omega)
      refine ⟨by omega, fun i y i1 i2 hy => ?_, h3⟩
      by_cases e : i = p + 1
      · subst e; rw [List.getElem?_eq_getElem hp] at hy; cases hy; exact h
      · exact h2 i y i1 (by omega) hy
    · next h =>
      refine ⟨Nat.le_refl _, fun i y i1 i2 hy => by omega, .inr fun y hy => ?_⟩
      rw [List.getElem?_eq_getElem hp] at hy; cases hy; omega
/-- How many of those that stay come to stand right below. -/
def upN (M : List Nd) (mt : Nat → Nat) (a e : Nat) : Nat :=
  if _h : a < e then (if mt a = 0 then upN M mt (a + 1) e else if _h2 : a < subE M a then upN M mt (subE M a) e + 1 else 0) else 0
  termination_by e - a
def rt {α : Type} : Dist.Fo α → Nat
  | .nil => 0
  | .cons _ _ s => rt s + 1
theorem cnt_rt : ∀ (n : Nat) (l : List Nd) (D : Int), l.length ≤ n → GE D l → CH (D - 1) l → cntD D l = rt (foL l) := by
  intro n
  induction n with
  | zero =>
    intro l D hn _ _
    have : l = [] := List.eq_nil_of_length_eq_zero (by omega)
    subst this; rw [foL_e]; rfl
  | succ n ih =>
    intro l D hn g c
    cases l with
    | nil => rw [foL_e]; rfl
    | cons x l =>
      obtain ⟨e1, a1, b1⟩ := Dist.while_parts (fun z : Nd => decide (x.depth < z.depth)) l
      have dx : x.depth = D := by have := g.cons.1; have := c.1; omega
      generalize l.takeWhile (fun z => decide (x.depth < z.depth)) = P at *
      generalize l.dropWhile (fun z => decide (x.depth < z.depth)) = Q at *
      subst e1
      have hP : GE (x.depth + 1) P := fun z hz => by have := a1 z hz; simp at this; omega
      have hQ : Low x.depth Q := fun z hz => by have := b1 z hz; simpa using this
      rw [foL_cons x P Q hP hQ, rt]
      obtain ⟨r, hr⟩ := (ch_app' c.2).2
      rw [dx] at hP hQ
      simp only [List.length_cons, List.length_append] at hn
      rw [← ih Q D (by omega) (fun z hz => g.cons.2 z (by simp [hz])) (hr.re (by rw [Int.sub_add_cancel]; exact hQ))]
      rw [show x :: (P ++ Q) = [x] ++ (P ++ Q) from rfl, cntD_app, cntD_app, cntD_deep hP]
      have : cntD D [x] = 1 := by simp [cntD, dx]
      omega
theorem up_rt {q : Int} {M : List Nd} (hM : CH q M) (mt : Nat → Nat) {k : Nat} (hk : k < M.length) : ∀ (n a : Nat), subE M k - a ≤ n → k < a → a ≤ subE M k → upN M mt a (subE M k) = rt (foL (lefts (lbT M mt) a (Dist.sg M a (subE M k)))) := by
  have hs := subE_le hk
  intro n
  induction n with
  | zero =>
    intro a hn h1 h2
    have : a = subE M k := by omega
    rw [this, upN, dif_neg (by omega), Dist.sg_self]
    rw [show lefts (lbT M mt) (subE M k) [] = [] from rfl, foL_e]; rfl
  | succ n ih =>
    intro a hn h1 h2
    rcases Nat.lt_or_ge a (subE M k) with q1 | q1
    · have ha : M[a]? = some M[a] := List.getElem?_eq_getElem (by omega)
      have hsa := subE_le (l := M) (k := a) (by omega)
      have hin := (subE_sub (l := M) (k := a) (by omega)).inside (subE_sub hk) h1 q1
      rw [Dist.sg_cons M a _ _ q1 ha, upN, dif_pos q1]
      by_cases hm : mt a = 0
      · rw [if_pos hm, lefts_none (by rw [lbT, if_pos hm]), foL_cut]
        exact ih (a + 1) (by omega) (by omega) (by omega)
      · rw [if_neg hm, dif_pos (by omega), lefts_some (y := lab M[a]) (by rw [lbT, if_neg hm, ha]; rfl)]
        obtain ⟨s1, s2, s3⟩ := lefts_split hM (lbT M mt) ha hin
        rw [s1, foL_cons ⟨(lab M[a]).1, (lab M[a]).2, (M[a]).depth⟩ _ _ s2 s3, rt, ih (subE M a) (by omega) (by omega) hin]
    · have : a = subE M k := by omega
      rw [this, upN, dif_neg (by omega), Dist.sg_self]
      rw [show lefts (lbT M mt) (subE M k) [] = [] from rfl, foL_e]; rfl
/-- What a program's nodes are like: the root at 0, all others below it; none below a leaf. -/
structure Prog (M : List Nd) : Prop where
  pos : 0 < M.length
  root : ∀ x, M[0]? = some x → x.depth = 0
  ge : GE 1 (M.drop 1)
  ch : CH (-1) M
  in_ : ∀ i x y, M[i]? = some x → M[i + 1]? = some y → x.depth < y.depth → x.inner = true
theorem Prog.leaf {M : List Nd} (h : Prog M) {k : Nat} {x : Nd} (hx : M[k]? = some x) (hb : x.inner = false) : subE M k = k + 1 := by
  have hk := (List.getElem?_eq_some_iff.1 hx).1
  have hs := subE_le hk
  rcases Nat.lt_or_ge (k + 1) (subE M k) with q | q
  · have hy : M[k + 1]? = some M[k + 1] := List.getElem?_eq_getElem (by omega)
    have := h.in_ k x _ hx hy ((subE_sub hk).deep x _ (k + 1) (by omega) q hx hy)
    rw [hb] at this; cases this
  · omega
def stT (M : List Nd) (mt : Nat → Nat) (l : Nat) : List Stp := if mt l = 0 then (match M[l]? with
  | some x => [.ins (parN M l) (cntD x.depth (Dist.sg M (parN M l + 1) l)) (upN M mt (l + 1) (subE M l)) x.inner x.text]
  | none => []) else []
def adds (M : List Nd) (mt : Nat → Nat) (l : Nat) : Nat → List Stp
  | 0 => []
  | n + 1 => stT M mt l ++ adds M mt (l + 1) n
theorem shN_shN (l : List Nd) : (l.map (shN (-1))).map (shN 1) = l := by
  rw [List.map_map]
  have : (shN 1 ∘ shN (-1)) = id := by
    funext x
    show ({ x with depth := x.depth + -1 + 1 } : Nd) = x
    rw [show x.depth + -1 + 1 = x.depth by omega]
  rw [this, List.map_id]
theorem add_run {M : List Nd} (h : Prog M) (mt : Nat → Nat) (l : Nat) (hl : 1 ≤ l) (hlm : l < M.length) :
    runS (M.take l ++ lefts (lbT M mt) l (M.drop l)) (stT M mt l) = some (M.take (l + 1) ++ lefts (lbT M mt) (l + 1) (M.drop (l + 1))) := by
  have hx : M[l]? = some M[l] := List.getElem?_eq_getElem hlm
  have ht : M.take (l + 1) = M.take l ++ [M[l]] := List.take_succ_eq_append_getElem hlm
  have hd : M.drop l = M[l] :: M.drop (l + 1) := List.drop_eq_getElem_cons hlm
  rw [ht, hd, List.append_assoc, List.singleton_append, stT, hx]
  generalize M[l] = x at *
  by_cases hm : mt l = 0
  · rw [if_pos hm, lefts_none (by rw [lbT, if_pos hm])]
    have hsub := subE_le hlm
    obtain ⟨s1, s2, s3⟩ := lefts_split h.ch (lbT M mt) hx (b := M.length) hsub.2
    have hsg : Dist.sg M (l + 1) M.length = M.drop (l + 1) := by unfold Dist.sg; rw [List.take_length]
    rw [hsg] at s1
    have hup := up_rt h.ch mt hlm _ (l + 1) (Nat.le_refl _) (by omega) hsub.1
    have hx1 : 1 ≤ x.depth := h.ge x (by rw [List.mem_iff_getElem?]; exact ⟨l - 1, by rw [List.getElem?_drop, show 1 + (l - 1) = l by omega]; exact hx⟩)
    have hdp : dpt M l = x.depth := by rw [dpt, hx]
    obtain ⟨p1, p2, p3⟩ := parG_spec M x.depth l hlm
    have hpe : parN M l = parG M x.depth l := by rw [parN, hdp]
    rw [hpe]
    generalize parG M x.depth l = p at *
    have hpl : p < l := by
      rcases Nat.lt_or_ge p l with q | q
      · exact q
      · have : p = l := by omega
        subst this
        rcases p3 with r | r
        · omega
        · have := r x hx; omega
    have hxp : M[p]? = some M[p] := List.getElem?_eq_getElem (by omega)
    have hlt : (M[p]).depth < x.depth := by
      rcases p3 with r | r
      · have := h.root M[p] (by rw [← hxp, r]); omega
      · exact r _ hxp
    have gS : GE x.depth (Dist.sg M (p + 1) l) := fun y hy => by
      obtain ⟨i, h1, h2, h3⟩ := Dist.sg_mem hy
      exact p2 i y (by omega) (by omega) h3
    have cp := ch_at h.ch hxp
    have hy1 : M[p + 1]? = some M[p + 1] := List.getElem?_eq_getElem (by omega)
    have d1 := p2 (p + 1) _ (by omega) (by omega) hy1
    have cd : M.drop (p + 1) = M[p + 1] :: M.drop (p + 1 + 1) := List.drop_eq_getElem_cons (by omega)
    have d2 : (M[p + 1]).depth ≤ (M[p]).depth + 1 := by rw [cd] at cp; exact cp.1
    have hin := h.in_ p _ _ hxp hy1 (by omega)
    have hD : (M[p]).depth + 1 = x.depth := by omega
    have eT : M.take l = M.take p ++ M[p] :: Dist.sg M (p + 1) l := by
      have := Dist.sg_app M 0 p l (Nat.zero_le _) (by omega)
      unfold Dist.sg at this
      rw [List.drop_zero, List.drop_zero] at this
      rw [this]
      congr 1
      exact Dist.sg_cons M p l _ hpl hxp
    have cS : CH (x.depth - 1) (Dist.sg M (p + 1) l) := by
      have e2 : M.drop (p + 1) = Dist.sg M (p + 1) l ++ M.drop l := by
        have := Dist.sg_app M (p + 1) l M.length (by omega) (by omega)
        unfold Dist.sg at this ⊢
        rw [List.take_length] at this
        exact this
      rw [e2] at cp
      rw [show x.depth - 1 = (M[p]).depth by omega]
      exact (ch_app' cp).1
    have cU := lefts_ch (lbT M mt) (Dist.sg M (l + 1) (subE M l)) (l + 1) x.depth (by
      have c1 := ch_at h.ch hx
      have e2 : M.drop (l + 1) = Dist.sg M (l + 1) (subE M l) ++ M.drop (subE M l) := by
        have := Dist.sg_app M (l + 1) (subE M l) M.length (by omega) (by omega)
        unfold Dist.sg at this ⊢
        rw [List.take_length] at this
        exact this
      rw [e2] at c1
      exact (ch_app' c1).1)
    rw [s1, cut_app _ _ _ s3, cut_all _ _ s2, hup]
    have hleaf : x.inner = false → lefts (lbT M mt) (l + 1) (Dist.sg M (l + 1) (subE M l)) = [] := fun hb => by
      rw [h.leaf hx hb, Dist.sg_self]; rfl
    have hcr := cnt_rt _ _ (x.depth + 1) (Nat.le_refl _) s2 (by rw [show x.depth + 1 - 1 = x.depth by omega]; exact cU)
    rw [← hcr]
    generalize lefts (lbT M mt) (l + 1) (Dist.sg M (l + 1) (subE M l)) = U at *
    generalize lefts (lbT M mt) (subE M l) (Dist.sg M (subE M l) M.length) = V at *
    have gU' : GE x.depth (U.map (shN (-1))) := fun y hy => by
      obtain ⟨z, hz, rfl⟩ := List.mem_map.1 hy
      have := s2 z hz
      show x.depth ≤ z.depth + -1; omega
    have cU' : CH (x.depth - 1) (U.map (shN (-1))) := by
      have := cut_ch x.depth U x.depth (x.depth - 1) cU (Int.le_refl _) (by omega)
      rw [cut_all _ _ s2] at this
      exact this
    have hcn : cntD (x.depth + 1) U = cntD x.depth (U.map (shN (-1))) := by
      rw [cntD, cntD, List.countP_map]
      congr 1
      funext z
      show decide (z.depth = x.depth + 1) = decide (z.depth + -1 = x.depth)
      rw [decide_eq_decide]; omega
    have key := ins_at (M.take p) (Dist.sg M (p + 1) l) (U.map (shN (-1))) V M[p] x.depth x.inner x.text hin hD gS cS gU' cU' s3 (fun hb => by rw [hleaf hb]; rfl)
    rw [List.length_take, Nat.min_eq_left (by omega), shN_shN] at key
    have eS : M.take l ++ (U.map (shN (-1)) ++ V) = M.take p ++ M[p] :: (Dist.sg M (p + 1) l ++ (U.map (shN (-1)) ++ V)) := by rw [eT]; simp
    rw [hcn, eS]
    simp only [runS, stepN, key, Option.bind_some]
    rw [eT]; simp
  · rw [if_neg hm, lefts_some (y := lab x) (by rw [lbT, if_neg hm, hx]; rfl)]
    rfl
theorem adds_run {M : List Nd} (h : Prog M) (mt : Nat → Nat) : ∀ (n l : Nat), 1 ≤ l → l + n = M.length → runS (M.take l ++ lefts (lbT M mt) l (M.drop l)) (adds M mt l n) = some M := by
  intro n
  induction n with
  | zero =>
    intro l _ e
    rw [List.drop_eq_nil_of_le (by omega), List.take_of_length_le (by omega), adds, runS]
    simp [lefts]
  | succ n ih =>
    intro l h1 e
    rw [adds, runS_app, add_run h mt l h1 (by omega), Option.bind_some]
    exact ih (l + 1) (by omega) (by omega)
/-- All steps, one behind the other. -/
theorem diff_run {L M : List Nd} (hL : Prog L) (hM : Prog M) (h0 : L[0]? = M[0]?) {mf mt : Nat → Nat} {n : Nat} (h : PM L M mf mt 1 L.length 1 M.length n) :
    runS L (chg L (lbF M mf) (L.length - 1) ++ adds M mt 1 (M.length - 1)) = some M := by
  have hs := pm_same hL.ch hM.ch h
  have e1 : Dist.sg L 1 L.length = L.drop 1 := by unfold Dist.sg; rw [List.take_length]
  have e2 : Dist.sg M 1 M.length = M.drop 1 := by unfold Dist.sg; rw [List.take_length]
  rw [e1, e2] at hs
  have cc : ∀ {K : List Nd}, Prog K → CH (1 - 1) (K.drop 1) := fun {K} hK => by
    have hp := hK.pos
    have hx : K[0]? = some K[0] := List.getElem?_eq_getElem hp
    have hc := ch_at hK.ch hx
    rw [hK.root _ hx] at hc
    exact hc
  have same := foL_inj _ _ _ 1 (Nat.le_refl _) (lefts_ge (lbF M mf) _ 1 hL.ge) (lefts_ge (lbT M mt) _ 1 hM.ge) (lefts_ch _ _ _ _ (cc hL)) (lefts_ch _ _ _ _ (cc hM)) hs
  have hc := chg_run hL.ch (lbF M mf) (fun k y k0 hk hy hb => by
    by_cases hz : mf k = 0
    · rw [lbF, if_pos hz] at hy; cases hy
    · rw [lbF, if_neg hz] at hy
      obtain ⟨z, hz1, rfl⟩ := Option.map_eq_some_iff.1 hy
      obtain ⟨m, _, hp⟩ := pm_sub h k (by omega) hk hz
      have := pm_same hL.ch hM.ch hp
      rw [hM.leaf hz1 hb, Dist.sg_self] at this
      exact foL_nil (this.trans foL_e)) (L.length - 1) (by have := hL.pos; omega)
  have hp := hL.pos
  rw [show L.length - 1 + 1 = L.length by omega, List.take_length, List.drop_length] at hc
  have hc' : runS L (chg L (lbF M mf) (L.length - 1)) = some (L.take 1 ++ lefts (lbF M mf) 1 (L.drop 1)) := by
    rw [← hc]; congr 1; simp [lefts]
  have ht : L.take 1 = M.take 1 := by
    have a1 := hL.pos; have a2 := hM.pos
    cases L with
    | nil => simp at a1
    | cons x L => cases M with
      | nil => simp at a2
      | cons y M => simp at h0; simp [h0]
  rw [runS_app, hc', Option.bind_some, same, ht]
  exact adds_run hM mt (M.length - 1) 1 (Nat.le_refl _) (by have := hM.pos; omega)

/-! ## How many -/
def sumN (f : Nat → Nat) (a : Nat) : Nat → Nat
  | 0 => 0
  | n + 1 => f a + sumN f (a + 1) n
theorem sumN_app (f : Nat → Nat) (n m : Nat) : ∀ a, sumN f a (n + m) = sumN f a n + sumN f (a + n) m := by
  induction n with
  | zero => intro a; rw [Nat.zero_add, sumN, Nat.zero_add]; rfl
  | succ n ih => intro a; rw [show n + 1 + m = (n + m) + 1 by omega, sumN, sumN, ih, show a + 1 + n = a + (n + 1) by omega]; omega
theorem sumN_one {f : Nat → Nat} (n : Nat) : ∀ a, (∀ i, a ≤ i → i < a + n → f i = 1) → sumN f a n = n := by
  induction n with
  | zero => intro a _; rfl
  | succ n ih => intro a h; rw [sumN, h a (Nat.le_refl _) (by omega), ih (a + 1) (fun i h1 h2 => h i (by omega) (by omega))]; omega
theorem chg_len (L : List Nd) (lb : Nat → Option (Bool × ByteArray)) (n : Nat) : (chg L lb n).length = sumN (fun k => (stF L lb k).length) 1 n := by
  induction n with
  | zero => rfl
  | succ n ih => rw [chg, List.length_append, ih, sumN_app, show 1 + n = n + 1 by omega]; simp only [sumN]; omega
theorem adds_len (M : List Nd) (mt : Nat → Nat) (n : Nat) : ∀ l, (adds M mt l n).length = sumN (fun k => (stT M mt k).length) l n := by
  induction n with
  | zero => intro l; rfl
  | succ n ih => intro l; rw [adds, List.length_append, ih, sumN]
theorem pm_cost {L M : List Nd} {mf mt : Nat → Nat} {a b a' b' n : Nat} (h : PM L M mf mt a b a' b' n) :
    sumN (fun k => (stF L (lbF M mf) k).length) a (b - a) + sumN (fun k => (stT M mt k).length) a' (b' - a') = n := by
  have f0 : ∀ k, mf k = 0 → (stF L (lbF M mf) k).length = 1 := fun k hk => by rw [stF, lbF, if_pos hk]; rfl
  have t0 : ∀ k, k < M.length → mt k = 0 → (stT M mt k).length = 1 := fun k hk h0 => by rw [stT, if_pos h0, List.getElem?_eq_getElem hk]; rfl
  induction h with
  | @come b a' b' hz h1 h2 h3 =>
    rw [Nat.sub_self, sumN_one (b' - a') a' (fun i i1 i2 => t0 i (by omega) (hz i i1 (by omega)))]
    simp [sumN]
  | @go a b b' hz h1 h2 h3 =>
    rw [Nat.sub_self, sumN_one (b - a) a (fun i i1 i2 => f0 i (hz i i1 (by omega)))]
    simp [sumN]
  | @del a b a' b' n h1 h2 h3 ih =>
    rw [show b - a = (b - (a + 1)) + 1 by omega, sumN]
    simp only [f0 a h2]
    omega
  | @ins a b a' b' n h1 h2 h3 ih =>
    have := h3.bounds
    rw [show b' - a' = (b' - (a' + 1)) + 1 by omega, sumN]
    simp only [t0 a' (by omega) h2]
    omega
  | @mat a b a' b' n m x y h0 h0' hx hy e1 e2 s1 s2 p1 p2 ih1 ih2 =>
    have b1 := p1.bounds
    have b2 := p2.bounds
    have hf : (stF L (lbF M mf) a).length = Dist.rel (lab x) (lab y) := by
      have : lbF M mf a = some (lab y) := by rw [lbF, if_neg (by omega), e1, hy]; rfl
      rw [stF, this, hx]
      simp only [Option.map_some, Option.some.injEq, Dist.rel]
      by_cases e : lab x = lab y
      · rw [if_pos e, if_pos e]; rfl
      · rw [if_neg e, if_neg e]; rfl
    have ht : (stT M mt a').length = 0 := by rw [stT, if_neg (by omega)]; rfl
    rw [show b - a = ((subE L a - (a + 1)) + (b - subE L a)) + 1 by omega, show b' - a' = ((subE M a' - (a' + 1)) + (b' - subE M a')) + 1 by omega, sumN, sumN, sumN_app, sumN_app, show a + 1 + (subE L a - (a + 1)) = subE L a by omega, show a' + 1 + (subE M a' - (a' + 1)) = subE M a' by omega]
    simp only [hf, ht]
    omega
/-- A sum of as many steps as the fewest. -/
theorem diff_len {L M : List Nd} {mf mt : Nat → Nat} {n : Nat} (h : PM L M mf mt 1 L.length 1 M.length n) : (chg L (lbF M mf) (L.length - 1) ++ adds M mt 1 (M.length - 1)).length = n := by
  rw [List.length_append, chg_len, adds_len]
  exact pm_cost h
/-- The fewest steps, as a number. -/
def dSn (L M : List Nd) (a b a' b' : Nat) : Nat := Dist.dS Nd.depth lab L M a b a' b'
/-- The marks matter where they are asked. -/
theorem PM.congr {L M : List Nd} {mf mt mf' mt' : Nat → Nat} {a b a' b' n : Nat} (h : PM L M mf mt a b a' b' n) : (∀ i, a ≤ i → i < b → mf' i = mf i) → (∀ j, a' ≤ j → j < b' → mt' j = mt j) → PM L M mf' mt' a b a' b' n := by
  induction h with
  | @come b a' b' hz h1 h2 h3 => intro _ ht; exact .come (fun j j1 j2 => (ht j j1 j2).trans (hz j j1 j2)) h1 h2 h3
  | @go a b b' hz h1 h2 h3 => intro hf _; exact .go (fun i i1 i2 => (hf i i1 i2).trans (hz i i1 i2)) h1 h2 h3
  | @del a b a' b' n h1 h2 h3 ih => intro hf ht; exact .del h1 ((hf a (Nat.le_refl _) h1).trans h2) (ih (fun i i1 i2 => hf i (by omega) i2) ht)
  | @ins a b a' b' n h1 h2 h3 ih => intro hf ht; exact .ins h1 ((ht a' (Nat.le_refl _) h1).trans h2) (ih hf (fun i i1 i2 => ht i (by omega) i2))
  | @mat a b a' b' n m x y h0 h0' hx hy e1 e2 s1 s2 p1 p2 ih1 ih2 =>
    intro hf ht
    have b1 := p1.bounds
    have b2 := p2.bounds
    exact .mat h0 h0' hx hy ((hf a (Nat.le_refl _) (by omega)).trans e1) ((ht a' (Nat.le_refl _) (by omega)).trans e2) s1 s2 (ih1 (fun i i1 i2 => hf i (by omega) (by omega)) (fun i i1 i2 => ht i (by omega) (by omega))) (ih2 (fun i i1 i2 => hf i (by omega) i2) (fun i i1 i2 => ht i (by omega) i2))

end Go.Proofs.YtdaneedflpfeaaaGreatDoor
