import Derived.Test.YtabafeckdclekaaDistB
namespace Go.Proofs.Ytabafeckdclekaa
set_option maxRecDepth 100000
namespace Dist
open Fo
attribute [local simp] app_nil nil_app cons_app size_app size_nil size_cons
variable {β γ α : Type} [DecidableEq α]
/-- The fewest steps between parts of two lists of rows. -/
def dS (d : β → Int) (h : β → α) (L M : List β) (a b a' b' : Nat) : Nat := dl ((fo d (sg L a b)).map h) ((fo d (sg M a' b')).map h)
theorem dS_end (d : β → Int) (h : β → α) (L M : List β) (b a' b' : Nat) (hb : b' ≤ M.length) : dS d h L M b b a' b' = b' - a' := by
  unfold dS
  rw [sg_self, fo, Fo.map, dl_nil, map_size, fo_size d _ _ (Nat.le_refl _), sg_len _ _ _ hb]
theorem dS_end' (d : β → Int) (h : β → α) (L M : List β) (a b b' : Nat) (hb : b ≤ L.length) : dS d h L M a b b' b' = b - a := by
  unfold dS
  rw [sg_self M, fo, Fo.map, dl_nil', map_size, fo_size d _ _ (Nat.le_refl _), sg_len _ _ _ hb]
theorem dS_step {d : β → Int} {h : β → α} {L M : List β} {u e b v e' b' : Nat} {x y : β} (h1 : Sub d L u e) (h2 : Sub d M v e') (hb : e ≤ b) (hb' : e' ≤ b') (hx : L[u]? = some x) (hy : M[v]? = some y) :
    dS d h L M u b v b' = min (min (dS d h L M (u + 1) b v b') (dS d h L M u b (v + 1) b') + 1) (dS d h L M (u + 1) e (v + 1) e' + rel (h x) (h y) + dS d h L M e b e' b') := by
  obtain ⟨a1, a2⟩ := fo_sub h1 hb hx
  obtain ⟨c1, c2⟩ := fo_sub h2 hb' hy
  unfold dS
  rw [a1, a2, c1, c2, map_app, map_app, Fo.map, Fo.map, dl_first]
theorem pf_size {X : List (β × Nat)} (hX : Nest X) (a : Nat) : ∀ (e : Nat), a ≤ e → e ≤ X.length → (∀ (v : Nat) x f, a ≤ v → v < e → X[v]? = some (x, f) → a ≤ f) → (pf X a e).size = e - a := by
  intro e
  induction e using Nat.strongRecOn generalizing a with
  | _ e ih =>
    intro h1 h2 h3
    rcases Nat.lt_or_ge a e with q | q
    · obtain ⟨u, rfl⟩ : ∃ u, e = u + 1 := ⟨e - 1, by omega⟩
      obtain ⟨x, f, hx⟩ : ∃ x f, X[u]? = some (x, f) := ⟨_, _, List.getElem?_eq_getElem (by omega)⟩
      have hf := hX.le u x f hx
      have hm := h3 u x f (by omega) (by omega) hx
      rw [pf_step (by omega) hx hf, size_app, size_cons, size_nil, ih f (by omega) a hm (by omega) (fun v y g hv1 hv2 => h3 v y g hv1 (by omega)), ih u (by omega) f hf (by omega) (fun v y g hv1 hv2 hy => hX.in_ u v x f y g hx hy hv1 (by omega))]
      omega
    · rw [pf_done _ _ _ q]; simp; omega
/-- The fewest steps between beginnings. -/
def dP (h : β → α) (X Y : List (β × Nat)) (a e b e' : Nat) : Nat := dl ((pf X a e).map h) ((pf Y b e').map h)
/-- What begins at a. -/
def From (X : List (β × Nat)) (a e : Nat) : Prop := ∀ (v : Nat) x f, a ≤ v → v < e → X[v]? = some (x, f) → a ≤ f
theorem From.of {X : List (β × Nat)} (hX : Nest X) {i a : Nat} {x : β} (h : X[i]? = some (x, a)) : From X a (i + 1) := fun v y f h1 h2 hv => hX.in_ i v x a y f h hv h1 (by omega)
theorem From.mono {X : List (β × Nat)} {a e e' : Nat} (h : From X a e) (he : e' ≤ e) : From X a e' := fun v y f h1 h2 hv => h v y f h1 (by omega) hv
theorem dP_end {h : β → α} {X Y : List (β × Nat)} (hY : Nest Y) (a b e' : Nat) (h1 : b ≤ e') (h2 : e' ≤ Y.length) (hF : From Y b e') : dP h X Y a a b e' = e' - b := by
  unfold dP
  rw [pf_done X a a (by omega), Fo.map, dl_nil, map_size, pf_size hY b e' h1 h2 hF]
theorem dP_end' {h : β → α} {X Y : List (β × Nat)} (hX : Nest X) (a b e : Nat) (h1 : a ≤ e) (h2 : e ≤ X.length) (hF : From X a e) : dP h X Y a e b b = e - a := by
  unfold dP
  rw [pf_done Y b b (by omega), Fo.map, dl_nil', map_size, pf_size hX a e h1 h2 hF]
theorem dP_step {h : β → α} {X Y : List (β × Nat)} (hX : Nest X) (hY : Nest Y) {a u f b v g : Nat} {x y : β} (hu : X[u]? = some (x, f)) (hv : Y[v]? = some (y, g)) (h1 : a ≤ f) (h2 : b ≤ g) (k : Nat)
    (hk : (f = a ∧ g = b ∧ k = dP h X Y a u b v + rel (h x) (h y)) ∨ k = dP h X Y a f b g + dP h X Y f (u + 1) g (v + 1)) :
    dP h X Y a (u + 1) b (v + 1) = min (min (dP h X Y a u b (v + 1) + 1) (dP h X Y a (u + 1) b v + 1)) k := by
  have hf := hX.le u x f hu
  have hg := hY.le v y g hv
  have ul : u < X.length := (List.getElem?_eq_some_iff.1 hu).1
  have vl : v < Y.length := (List.getElem?_eq_some_iff.1 hv).1
  have a1 := pf_step (show a ≤ u by omega) hu hf
  have a2 := pf_step (show b ≤ v by omega) hv hg
  have c1 := pf_cut hX a f u h1 hf (by omega) (fun w z j q1 q2 q3 => hX.in_ u w x f z j hu q3 q1 (by omega))
  have c2 := pf_cut hY b g v h2 hg (by omega) (fun w z j q1 q2 q3 => hY.in_ v w y g z j hv q3 q1 (by omega))
  have s1 := pf_step hf hu hf
  have s2 := pf_step hg hv hg
  rw [pf_done X f f (Nat.le_refl _), nil_app] at s1
  rw [pf_done Y g g (Nat.le_refl _), nil_app] at s2
  unfold dP at hk ⊢
  have key := dl_last ((pf X a f).map h) ((pf Y b g).map h) (h x) (h y) ((pf X f u).map h) ((pf Y g v).map h) k ?_
  · rw [a1, a2, map_app, map_app, c1, c2, map_app, map_app]
    exact key
  · rcases hk with ⟨rfl, rfl, rfl⟩ | rfl
    · refine .inl ⟨?_, ?_, rfl⟩
      · rw [pf_done X f f (Nat.le_refl _)]; rfl
      · rw [pf_done Y g g (Nat.le_refl _)]; rfl
    · refine .inr ?_
      rw [s1, s2]; rfl
/-- Both below one node that stays. -/
theorem dl_root (r : α) (f g : Fo α) : dl (cons r f .nil) (cons r g .nil) = dl f g := by
  apply Nat.le_antisymm
  · have := dl_le (Ed.mat (a := r) (b := r) (dl_ed f g) Ed.nil)
    rw [rel_self] at this; omega
  · have h := dl_ed (cons r f .nil) (cons r g .nil)
    generalize dl (cons r f .nil) (cons r g .nil) = n at h
    cases h with
    | del h =>
      rw [app_nil] at h
      have h1 := dl_le h
      have h2 : dl (cons r g .nil) g ≤ 0 + 1 := dl_le (.del (by rw [app_nil]; exact Ed.refl g))
      have := dl_tri f (cons r g .nil) g
      omega
    | ins h =>
      rw [app_nil] at h
      have h1 := dl_le h
      have h2 : dl f (cons r f .nil) ≤ 0 + 1 := dl_le (.ins (by rw [app_nil]; exact Ed.refl f))
      have := dl_tri f (cons r f .nil) g
      omega
    | mat h1 h2 =>
      have := dl_le h1
      omega
end Dist
end Go.Proofs.Ytabafeckdclekaa
