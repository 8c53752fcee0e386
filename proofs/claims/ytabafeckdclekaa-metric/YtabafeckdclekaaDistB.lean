import Derived.Test.YtabafeckdclekaaDistA
namespace Go.Proofs.Ytabafeckdclekaa
set_option maxRecDepth 100000
namespace Dist
open Fo
attribute [local simp] app_nil nil_app cons_app size_app size_nil size_cons
variable {β : Type}
def Fo.map {γ : Type} (h : β → γ) : Fo β → Fo γ
  | .nil => .nil
  | .cons a c s => .cons (h a) (c.map h) (s.map h)
theorem map_app {γ : Type} (h : β → γ) (f g : Fo β) : (f.app g).map h = (f.map h).app (g.map h) := by
  induction f with
  | nil => rfl
  | cons a c s _ ih => simp [Fo.map, ih]
theorem map_map {γ δ : Type} (h : β → γ) (k : γ → δ) (f : Fo β) : (f.map h).map k = f.map (fun x => k (h x)) := by
  induction f with
  | nil => rfl
  | cons a c s ih1 ih2 => simp [Fo.map, ih1, ih2]
theorem map_size {γ : Type} (h : β → γ) (f : Fo β) : (f.map h).size = f.size := by
  induction f with
  | nil => rfl
  | cons a c s ih1 ih2 => simp [Fo.map, ih1, ih2]
theorem dropWhile_len (p : β → Bool) (l : List β) : (l.dropWhile p).length ≤ l.length := by
  induction l with
  | nil => simp
  | cons x l ih => simp only [List.dropWhile]; split <;> simp <;> omega
theorem takeWhile_len (p : β → Bool) (l : List β) : (l.takeWhile p).length ≤ l.length := by
  induction l with
  | nil => simp
  | cons x l ih => simp only [List.takeWhile]; split <;> simp <;> omega
/-- The forest of rows with depths. -/
def fo (d : β → Int) : List β → Fo β
  | [] => .nil
  | x :: l => .cons x (fo d (l.takeWhile fun y => decide (d x < d y))) (fo d (l.dropWhile fun y => decide (d x < d y)))
  termination_by l => l.length
  decreasing_by
    · have := takeWhile_len (fun y => decide (d x < d y)) l; simp; omega
    · have := dropWhile_len (fun y => decide (d x < d y)) l; simp; omega
theorem while_split (p : β → Bool) (A B : List β) (hA : ∀ x ∈ A, p x = true) (hB : ∀ y, B.head? = some y → p y = false) : (A ++ B).takeWhile p = A ∧ (A ++ B).dropWhile p = B := by
  induction A with
  | nil =>
    cases B with
    | nil => simp
    | cons y B => simp [hB y rfl]
  | cons x A ih =>
    have := ih (fun z hz => hA z (by simp [hz]))
    simp [hA x (by simp), this.1, this.2]
theorem fo_cons (d : β → Int) (x : β) (A B : List β) (hA : ∀ y ∈ A, d x < d y) (hB : ∀ y, B.head? = some y → d y ≤ d x) : fo d (x :: (A ++ B)) = .cons x (fo d A) (fo d B) := by
  obtain ⟨h1, h2⟩ := while_split (fun y => decide (d x < d y)) A B (fun y hy => by simpa using hA y hy) (fun y hy => by simpa using hB y hy)
  rw [fo, h1, h2]
theorem while_parts (p : β → Bool) (l : List β) : l = l.takeWhile p ++ l.dropWhile p ∧ (∀ x ∈ l.takeWhile p, p x = true) ∧ (∀ y, (l.dropWhile p).head? = some y → p y = false) := by
  induction l with
  | nil => simp
  | cons x l ih =>
    by_cases h : p x = true
    · simp only [List.takeWhile, List.dropWhile, h]
      refine ⟨by rw [List.cons_append, ← ih.1], ?_, ih.2.2⟩
      intro y hy
      rcases List.mem_cons.1 hy with rfl | hy
      · exact h
      · exact ih.2.1 y hy
    · have h' : p x = false := by simpa using h
      simp only [List.takeWhile, List.dropWhile, h']
      refine ⟨rfl, by simp, ?_⟩
      intro y hy
      simp at hy; subst hy; exact h'
theorem fo_app (d : β → Int) : ∀ (n : Nat) (A B : List β), A.length ≤ n → (∀ x ∈ A, ∀ y, B.head? = some y → d y ≤ d x) → fo d (A ++ B) = (fo d A).app (fo d B) := by
  intro n
  induction n with
  | zero =>
    intro A B h _
    cases A with
    | nil => simp [fo]
    | cons => simp at h
  | succ n ih =>
    intro A B h hB
    cases A with
    | nil => simp [fo]
    | cons x A =>
      obtain ⟨e, h1, h2⟩ := while_parts (fun y => decide (d x < d y)) A
      have hl := dropWhile_len (fun y => decide (d x < d y)) A
      generalize hP : A.takeWhile (fun y => decide (d x < d y)) = P at *
      generalize hD : A.dropWhile (fun y => decide (d x < d y)) = D at *
      have hx : fo d (x :: A) = .cons x (fo d P) (fo d D) := by rw [fo, hP, hD]
      rw [hx, cons_app, ← ih D B (by simp at h; omega) (fun z hz => hB z (by rw [e]; simp [hz]))]
      rw [List.cons_append, e, List.append_assoc]
      refine fo_cons d x P (D ++ B) (fun y hy => by simpa using h1 y hy) ?_
      intro y hy
      cases D with
      | nil => simp at hy; exact hB x (by simp) y hy
      | cons z D => simp at hy; subst hy; simpa using h2 z rfl
theorem fo_size (d : β → Int) : ∀ (n : Nat) (A : List β), A.length ≤ n → (fo d A).size = A.length := by
  intro n
  induction n with
  | zero =>
    intro A h
    cases A with
    | nil => simp [fo]
    | cons => simp at h
  | succ n ih =>
    intro A h
    cases A with
    | nil => simp [fo]
    | cons x A =>
      have e := congrArg List.length (while_parts (fun y => decide (d x < d y)) A).1
      rw [List.length_append] at e
      rw [fo, size_cons, ih _ (by simp at h; omega), ih _ (by simp at h; omega)]
      simp; omega
theorem fo_map {γ : Type} (d : β → Int) (e : γ → Int) (h : γ → β) (he : ∀ x y, (d (h x) < d (h y)) ↔ e x < e y) : ∀ (n : Nat) (A : List γ), A.length ≤ n → fo d (A.map h) = (fo e A).map h := by
  intro n
  induction n with
  | zero =>
    intro A hA
    cases A with
    | nil => simp [fo, Fo.map]
    | cons => simp at hA
  | succ n ih =>
    intro A hA
    cases A with
    | nil => simp [fo, Fo.map]
    | cons x A =>
      have h1 := takeWhile_len (fun y => decide (e x < e y)) A
      have h2 := dropWhile_len (fun y => decide (e x < e y)) A
      rw [List.map_cons, fo, fo, Fo.map, List.takeWhile_map, List.dropWhile_map]
      have hc : ((fun y => decide (d (h x) < d y)) ∘ h) = (fun y => decide (e x < e y)) := by
        funext y; simp [he]
      rw [hc, ih _ (by simp at hA; omega), ih _ (by simp at hA; omega)]
/-- Part of a list. -/
def sg (L : List β) (a b : Nat) : List β := (L.take b).drop a
theorem sg_self (L : List β) (a : Nat) : sg L a a = [] := by
  unfold sg; rw [List.drop_eq_nil_iff]; simp; omega
theorem sg_len (L : List β) (a b : Nat) (h : b ≤ L.length) : (sg L a b).length = b - a := by
  unfold sg; simp; omega
theorem sg_app (L : List β) (a m b : Nat) (h1 : a ≤ m) (h2 : m ≤ b) : sg L a b = sg L a m ++ sg L m b := by
  unfold sg
  rw [show L.take m = (L.take b).take m by rw [List.take_take, Nat.min_eq_left h2]]
  generalize L.take b = K
  rw [← List.take_append_drop (m - a) (K.drop a), List.drop_drop, List.take_drop]
  rw [show a + (m - a) = m by omega]
theorem sg_get (L : List β) (a b i : Nat) : (sg L a b)[i]? = if a + i < b then L[a + i]? else none := by
  unfold sg
  rw [List.getElem?_drop, List.getElem?_take]
theorem sg_cons (L : List β) (a b : Nat) (x : β) (h1 : a < b) (hx : L[a]? = some x) : sg L a b = x :: sg L (a + 1) b := by
  rw [sg_app L a (a + 1) b (by omega) (by omega)]
  have : sg L a (a + 1) = [x] := by
    apply List.ext_getElem?
    intro i
    rw [sg_get]
    cases i with
    | zero => simpa using hx
    | succ i => rw [if_neg (by omega)]; simp
  rw [this]; rfl
theorem sg_mem {L : List β} {a b : Nat} {x : β} (h : x ∈ sg L a b) : ∃ i, a ≤ i ∧ i < b ∧ L[i]? = some x := by
  obtain ⟨i, hi⟩ := List.mem_iff_getElem?.1 h
  rw [sg_get] at hi
  split at hi
  · exact ⟨a + i, by omega, by assumption, hi⟩
  · cases hi
theorem sg_head {L : List β} {a b : Nat} {x : β} (h : (sg L a b).head? = some x) : a < b ∧ L[a]? = some x := by
  rw [List.head?_eq_getElem?, sg_get] at h
  split at h
  · exact ⟨by omega, by simpa using h⟩
  · cases h
/-- e is where what stands below u ends. -/
structure Sub (d : β → Int) (L : List β) (u e : Nat) : Prop where
  lt : u < e
  le : e ≤ L.length
  deep : ∀ x y i, u < i → i < e → L[u]? = some x → L[i]? = some y → d x < d y
  stop : ∀ x y, L[u]? = some x → L[e]? = some y → d y ≤ d x
theorem Sub.inside {d : β → Int} {L : List β} {u e k b : Nat} (h : Sub d L u e) (h' : Sub d L k b) (h1 : k < u) (h2 : u < b) : e ≤ b := by
  rcases Nat.lt_or_ge b e with q | q
  · have := h.le; have := h.lt; have := h'.lt
    obtain ⟨x, hx⟩ : ∃ x, L[u]? = some x := ⟨_, List.getElem?_eq_getElem (by omega)⟩
    obtain ⟨y, hy⟩ : ∃ x, L[k]? = some x := ⟨_, List.getElem?_eq_getElem (by omega)⟩
    obtain ⟨z, hz⟩ : ∃ x, L[b]? = some x := ⟨_, List.getElem?_eq_getElem (by omega)⟩
    have a1 := h.deep x z b h2 q hx hz
    have a2 := h'.stop y z hy hz
    have a3 := h'.deep y x u h1 h2 hy hx
    omega
  · exact q
theorem fo_sub {d : β → Int} {L : List β} {u e b : Nat} {x : β} (h : Sub d L u e) (hb : e ≤ b) (hx : L[u]? = some x) :
    fo d (sg L u b) = .cons x (fo d (sg L (u + 1) e)) (fo d (sg L e b)) ∧ fo d (sg L (u + 1) b) = (fo d (sg L (u + 1) e)).app (fo d (sg L e b)) := by
  have hlt := h.lt
  have h1 : ∀ y ∈ sg L (u + 1) e, d x < d y := by
    intro y hy
    obtain ⟨i, hi1, hi2, hi3⟩ := sg_mem hy
    exact h.deep x y i (by omega) hi2 hx hi3
  have h2 : ∀ y, (sg L e b).head? = some y → d y ≤ d x := fun y hy => h.stop x y hx (sg_head hy).2
  constructor
  · rw [sg_cons L u b x (by omega) hx, sg_app L (u + 1) e b (by omega) hb]
    exact fo_cons d x _ _ h1 h2
  · rw [sg_app L (u + 1) e b (by omega) hb]
    refine fo_app d _ _ _ (Nat.le_refl _) ?_
    intro z hz y hy
    have := h1 z hz; have := h2 y hy
    omega
/-- Children first: the nodes, by each the first of its subtree. -/
def po : Fo β → Nat → List (β × Nat)
  | .nil, _ => []
  | .cons a c s, k => po c k ++ (a, k) :: po s (k + c.size + 1)
theorem po_len (f : Fo β) (k : Nat) : (po f k).length = f.size := by
  induction f generalizing k with
  | nil => rfl
  | cons a c s ih1 ih2 => simp [po, ih1, ih2]; omega
theorem po_app (f g : Fo β) (k : Nat) : po (f.app g) k = po f k ++ po g (k + f.size) := by
  induction f generalizing k with
  | nil => simp [po]
  | cons a c s _ ih =>
    simp only [po, cons_app, ih, size_cons, List.append_assoc, List.cons_append]
    rw [show k + c.size + 1 + s.size = k + (1 + c.size + s.size) by omega]
theorem po_shift (f : Fo β) (k j : Nat) : po f (k + j) = (po f k).map fun x => (x.1, x.2 + j) := by
  induction f generalizing k with
  | nil => rfl
  | cons a c s ih1 ih2 =>
    simp only [po, List.map_append, List.map_cons, ih1]
    rw [show k + j + c.size + 1 = (k + c.size + 1) + j by omega, ih2]
/-- At each place the first of its subtree stands no later, and what stands between begins no sooner. -/
structure Nest (X : List (β × Nat)) : Prop where
  le : ∀ (u : Nat) x f, X[u]? = some (x, f) → f ≤ u
  in_ : ∀ (u v : Nat) x f y g, X[u]? = some (x, f) → X[v]? = some (y, g) → f ≤ v → v ≤ u → f ≤ g
/-- po lies in X from k on. -/
def Lies (X : List (β × Nat)) (f : Fo β) (k : Nat) : Prop := ∀ i, i < f.size → X[k + i]? = (po f k)[i]?
theorem po_range (f : Fo β) (k : Nat) : ∀ (u : Nat) x g, (po f k)[u]? = some (x, g) → k ≤ g ∧ g ≤ k + u := by
  induction f generalizing k with
  | nil => intro u x g h; simp [po] at h
  | cons a c s ih1 ih2 =>
    intro u x g h
    have hc := po_len c k
    rcases Nat.lt_trichotomy u c.size with q | q | q
    · rw [po, List.getElem?_append_left (by omega)] at h
      exact ih1 k u x g h
    · rw [po, List.getElem?_append_right (by omega), hc, q, Nat.sub_self] at h
      simp at h; omega
    · rw [po, List.getElem?_append_right (by omega), hc] at h
      obtain ⟨v, rfl⟩ : ∃ v, u = c.size + 1 + v := ⟨u - c.size - 1, by omega⟩
      rw [show c.size + 1 + v - c.size = v + 1 by omega, List.getElem?_cons_succ] at h
      have := ih2 _ v x g h
      omega
theorem po_nest (f : Fo β) (k : Nat) : ∀ (u v : Nat) x g y h, (po f k)[u]? = some (x, g) → (po f k)[v]? = some (y, h) → g ≤ k + v → v ≤ u → g ≤ h := by
  induction f generalizing k with
  | nil => intro u v x g y h e; simp [po] at e
  | cons a c s ih1 ih2 =>
    intro u v x g y h e1 e2 h1 h2
    have hc := po_len c k
    have r2 := po_range _ k v y h e2
    rcases Nat.lt_trichotomy u c.size with q | q | q
    · rw [po, List.getElem?_append_left (by omega)] at e1 e2
      exact ih1 k u v x g y h e1 e2 h1 h2
    · rw [po, List.getElem?_append_right (by omega), hc, q, Nat.sub_self] at e1
      simp at e1; omega
    · rw [po, List.getElem?_append_right (by omega), hc] at e1
      obtain ⟨u', rfl⟩ : ∃ v, u = c.size + 1 + v := ⟨u - c.size - 1, by omega⟩
      rw [show c.size + 1 + u' - c.size = u' + 1 by omega, List.getElem?_cons_succ] at e1
      have r1 := po_range s _ u' x g e1
      rw [po, List.getElem?_append_right (by omega), hc] at e2
      obtain ⟨v', rfl⟩ : ∃ v', v = c.size + 1 + v' := ⟨v - c.size - 1, by omega⟩
      rw [show c.size + 1 + v' - c.size = v' + 1 by omega, List.getElem?_cons_succ] at e2
      exact ih2 _ u' v' x g y h e1 e2 (by omega) (by omega)
theorem nest_po (f : Fo β) : Nest (po f 0) where
  le u x g h := by have := po_range f 0 u x g h; omega
  in_ u v x g y h e1 e2 h1 h2 := po_nest f 0 u v x g y h e1 e2 (by omega) h2
/-- The forest of the nodes from a on, ahead of e. -/
def pf (X : List (β × Nat)) (a e : Nat) : Fo β :=
  match e with
  | 0 => .nil
  | e' + 1 => if a ≤ e' then (match X[e']? with
    | some (x, f) => if f ≤ e' then (pf X a f).app (.cons x (pf X f e') .nil) else .nil
    | none => .nil) else .nil
  termination_by e
theorem pf_done (X : List (β × Nat)) (a e : Nat) (h : e ≤ a) : pf X a e = .nil := by
  rw [pf.eq_def]; split
  · rfl
  · rw [if_neg (by omega)]
theorem pf_step {X : List (β × Nat)} {a u f : Nat} {x : β} (h : a ≤ u) (hx : X[u]? = some (x, f)) (hf : f ≤ u) : pf X a (u + 1) = (pf X a f).app (.cons x (pf X f u) .nil) := by
  rw [pf.eq_def]
  simp only [h, if_true, hx, hf]
theorem pf_cut {X : List (β × Nat)} (hX : Nest X) (a m : Nat) : ∀ (e : Nat), a ≤ m → m ≤ e → e ≤ X.length → (∀ (v : Nat) x f, m ≤ v → v < e → X[v]? = some (x, f) → m ≤ f) → pf X a e = (pf X a m).app (pf X m e) := by
  intro e
  induction e using Nat.strongRecOn with
  | _ e ih =>
    intro h1 h2 h3 h4
    rcases Nat.lt_or_ge m e with q | q
    · obtain ⟨u, rfl⟩ : ∃ u, e = u + 1 := ⟨e - 1, by omega⟩
      obtain ⟨x, f, hx⟩ : ∃ x f, X[u]? = some (x, f) := ⟨_, _, List.getElem?_eq_getElem (by omega)⟩
      have hf := hX.le u x f hx
      have hm := h4 u x f (by omega) (by omega) hx
      rw [pf_step (by omega) hx hf, pf_step (by omega) hx hf, ih f (by omega) h1 hm (by omega) (fun v y g hv1 hv2 => h4 v y g hv1 (by omega)), app_assoc]
    · have : m = e := by omega
      subst this
      rw [pf_done X m m (by omega), app_nil]
theorem pf_lies {X : List (β × Nat)} (hX : Nest X) (f : Fo β) : ∀ k, k + f.size ≤ X.length → Lies X f k → pf X k (k + f.size) = f := by
  induction f with
  | nil => intro k _ _; exact pf_done _ _ _ (by simp)
  | cons a c s ih1 ih2 =>
    intro k hk hl
    simp at hk
    have hc := po_len c k
    have lc : Lies X c k := fun i hi => by
      rw [hl i (by simp; omega), po, List.getElem?_append_left (by omega)]
    have la : X[k + c.size]? = some (a, k) := by
      rw [hl c.size (by simp; omega), po, List.getElem?_append_right (by omega), hc, Nat.sub_self]; rfl
    have ls : Lies X s (k + c.size + 1) := fun i hi => by
      rw [show k + c.size + 1 + i = k + (c.size + 1 + i) by omega, hl _ (by simp; omega), po, List.getElem?_append_right (by omega), hc, show c.size + 1 + i - c.size = i + 1 by omega, List.getElem?_cons_succ]
    rw [pf_cut hX k (k + c.size + 1) _ (by omega) (by simp; omega) (by simp; omega) ?_, pf_step (by omega) la (by omega), pf_done X k k (by omega), ih1 k (by omega) lc, nil_app, cons_app, nil_app]
    · congr 1
      rw [show k + (cons a c s).size = k + c.size + 1 + s.size by simp; omega]
      exact ih2 _ (by omega) ls
    · intro v x g h1 h2 hv
      obtain ⟨i, rfl⟩ : ∃ i, v = k + c.size + 1 + i := ⟨v - (k + c.size + 1), by omega⟩
      have hi : i < s.size := by simp at h2; omega
      rw [ls i hi] at hv
      exact (po_range s _ i x g hv).1
theorem pf_po (f : Fo β) : pf (po f 0) 0 f.size = f := by
  have := pf_lies (nest_po f) f 0 (by rw [po_len]; omega) (fun i _ => by rw [Nat.zero_add])
  simpa using this
end Dist
end Go.Proofs.Ytabafeckdclekaa
