import Derived.Test.YtdaneedflpfeaaaKeepH
namespace Go.Proofs.Ytdaneedflpfeaaa
set_option maxRecDepth 100000
open Go.RowKit

/-! ## How far two such functions are apart -/
theorem ed_keep {α : Type} [DecidableEq α] {a : α} {c c' s s' : Dist.Fo α} {n m : Nat} (h1 : Dist.Ed c c' n) (h2 : Dist.Ed s s' m) : Dist.Ed (.cons a c s) (.cons a c' s') (n + m) := (Dist.Ed.mat h1 h2).cast (by rw [Dist.rel_self]; omega)
theorem foW_void (X : ByteArray) (m : List Rw) (h2 : ∀ x ∈ m, 2 ≤ x.deep) (hh : ∀ x, m.head? = some x → x.deep ≤ 2) :
    foW (voidR X m) = .cons (true, ⟨#[102, 117, 110, 99, 116, 105, 111, 110]⟩) (.cons (false, ⟨#[118, 111, 105, 100]⟩) .nil (.cons (false, X) .nil (.cons (false, ⟨#[40]⟩) .nil (.cons (false, ⟨#[41]⟩) .nil (.cons (true, ⟨#[98, 108, 111, 99, 107]⟩) (.cons (false, ⟨#[123]⟩) .nil ((foW m).app (.cons (false, ⟨#[125]⟩) .nil .nil))) .nil))))) (.cons (false, ⟨#[]⟩) .nil .nil) := by
  have one : ∀ (r : Rw), Dist.fo rdeep [r] = .cons r .nil .nil := fun r => by
    have := Dist.fo_cons rdeep r [] [] (fun y hy => by simp at hy) (fun y hy => by simp at hy)
    rw [List.nil_append, Dist.fo] at this
    exact this
  have leaf : ∀ (r : Rw) (l : List Rw), (∀ y, l.head? = some y → rdeep y ≤ rdeep r) → Dist.fo rdeep (r :: l) = .cons r .nil (Dist.fo rdeep l) := fun r l h => by
    have := Dist.fo_cons rdeep r [] l (fun y hy => by simp at hy) h
    rw [List.nil_append, Dist.fo] at this
    exact this
  unfold foW voidR
  have e : ∀ l : List Rw, l ++ [(⟨2, false, ⟨#[125]⟩⟩ : Rw), ⟨0, false, ⟨#[]⟩⟩] = (l ++ [⟨2, false, ⟨#[125]⟩⟩]) ++ [⟨0, false, ⟨#[]⟩⟩] := fun l => by simp
  rw [e m]
  have c0 := Dist.fo_cons rdeep ⟨0, true, ⟨#[102, 117, 110, 99, 116, 105, 111, 110]⟩⟩ (⟨1, false, ⟨#[118, 111, 105, 100]⟩⟩ :: ⟨1, false, X⟩ :: ⟨1, false, ⟨#[40]⟩⟩ :: ⟨1, false, ⟨#[41]⟩⟩ :: ⟨1, true, ⟨#[98, 108, 111, 99, 107]⟩⟩ :: ⟨2, false, ⟨#[123]⟩⟩ :: (m ++ [⟨2, false, ⟨#[125]⟩⟩])) [⟨0, false, ⟨#[]⟩⟩]
    (fun y hy => by
      simp only [List.mem_cons, List.mem_append, List.not_mem_nil, or_false] at hy
      rcases hy with rfl | rfl | rfl | rfl | rfl | rfl | hy | rfl
      · simp [rdeep]
      · simp [rdeep]
      · simp [rdeep]
      · simp [rdeep]
      · simp [rdeep]
      · simp [rdeep]
      · have := h2 y hy; simp [rdeep]; omega
      · simp [rdeep]) (fun y hy => by simp at hy; subst hy; simp [rdeep])
  simp only [List.cons_append] at c0 ⊢
  rw [c0, one, leaf _ _ (fun y hy => by simp at hy; subst hy; simp [rdeep]), leaf _ _ (fun y hy => by simp at hy; subst hy; simp [rdeep]), leaf _ _ (fun y hy => by simp at hy; subst hy; simp [rdeep]), leaf _ _ (fun y hy => by simp at hy; subst hy; simp [rdeep])]
  have c5 := Dist.fo_cons rdeep ⟨1, true, ⟨#[98, 108, 111, 99, 107]⟩⟩ (⟨2, false, ⟨#[123]⟩⟩ :: (m ++ [⟨2, false, ⟨#[125]⟩⟩])) [] (fun y hy => by
      simp only [List.mem_cons, List.mem_append, List.not_mem_nil, or_false] at hy
      rcases hy with rfl | hy | rfl
      · simp [rdeep]
      · have := h2 y hy; simp [rdeep]; omega
      · simp [rdeep]) (fun y hy => by simp at hy)
  rw [List.append_nil] at c5
  rw [c5, leaf _ (m ++ _) (fun y hy => by
    cases m with
    | nil => simp at hy; subst hy; simp [rdeep]
    | cons z m => simp at hy; subst hy; have := hh z rfl; simp [rdeep]; omega), Dist.fo_app rdeep _ m _ (Nat.le_refl _) (fun x hx y hy => by simp at hy; subst hy; have := h2 x hx; simp [rdeep]; omega), one]
  simp only [Dist.Fo.map, Dist.map_app, Dist.fo, labW]
/-- A statement more. -/
theorem ed_more (X : ByteArray) (m : List Rw) (h2 : ∀ x ∈ m, 2 ≤ x.deep) (hh : ∀ x, m.head? = some x → x.deep ≤ 2) : dlR (voidR X []) (voidR X m) ≤ m.length := by
  unfold dlR
  rw [foW_void X m h2 hh, foW_void X [] (fun x hx => by simp at hx) (fun x hx => by simp at hx)]
  have hz : (foW m).size = m.length := by unfold foW; rw [Dist.map_size, Dist.fo_size _ _ _ (Nat.le_refl _)]
  have hn : foW [] = .nil := by unfold foW; rw [Dist.fo]; rfl
  have hi : Dist.Ed (foW []) (foW m) m.length := by
    rw [hn]
    exact (Dist.Ed.all_del (foW m) _ hz).symm
  have e1 := hi.append (Dist.Ed.refl (.cons (false, ⟨#[125]⟩) .nil .nil : Dist.Fo (Bool × ByteArray)))
  have r := fun (a : Bool × ByteArray) {s s' : Dist.Fo (Bool × ByteArray)} {n : Nat} (h : Dist.Ed s s' n) => (ed_keep (a := a) (Dist.Ed.refl .nil) h).cast (show 0 + n = n by omega)
  have e2 := (ed_keep (a := ((true, ⟨#[98, 108, 111, 99, 107]⟩) : Bool × ByteArray)) (r (false, ⟨#[123]⟩) e1) (Dist.Ed.refl .nil))
  have e3 := r (false, ⟨#[118, 111, 105, 100]⟩) (r (false, X) (r (false, ⟨#[40]⟩) (r (false, ⟨#[41]⟩) e2)))
  have e4 := ed_keep (a := ((true, ⟨#[102, 117, 110, 99, 116, 105, 111, 110]⟩) : Bool × ByteArray)) e3 (Dist.Ed.refl (.cons (false, ⟨#[]⟩) .nil .nil))
  exact Dist.dl_le (e4.cast (by omega))
/-- No fewer than what has nothing alike. -/
theorem ed_low {α : Type} [DecidableEq α] (p : α → Bool) {f g : Dist.Fo α} {n : Nat} (h : Dist.Ed f g n) (hp : ∀ b ∈ preF g, p b = true) : g.size ≤ n + (preF f).countP p := by
  have papp : ∀ (f g : Dist.Fo α), preF (f.app g) = preF f ++ preF g := by
    intro f g
    induction f with
    | nil => rfl
    | cons a c s _ ih => simp [Dist.Fo.app, preF, ih]
  induction h with
  | nil => simp [Dist.Fo.size]
  | @del a c s g n _ ih =>
    have := ih hp
    rw [papp] at this
    simp only [preF, List.countP_cons, List.countP_append] at this ⊢
    split <;> omega
  | @ins f b c s n _ ih =>
    have := ih (fun x hx => hp x (by rw [papp] at hx; simp only [preF, List.mem_cons]; exact .inr hx))
    rw [Dist.Fo.size_app] at this
    rw [Dist.Fo.size_cons]
    omega
  | @mat a c s b c' s' n m _ _ ih1 ih2 =>
    have i1 := ih1 (fun x hx => hp x (by simp [preF, hx]))
    have i2 := ih2 (fun x hx => hp x (by simp [preF, hx]))
    have hb := hp b (by simp [preF])
    rw [Dist.Fo.size_cons]
    simp only [preF, List.countP_cons, List.countP_append]
    unfold Dist.rel
    by_cases e : a = b
    · rw [if_pos e, e, hb]; simp; omega
    · rw [if_neg e]; split <;> omega
theorem dlR_low (p : Bool × ByteArray → Bool) (l m : List Rw) (hp : ∀ x ∈ m, p (labW x) = true) : m.length ≤ dlR l m + (l.map labW).countP p := by
  have h := ed_low p (Dist.dl_ed (foW l) (foW m)) (fun b hb => by
    rw [foW_pre] at hb
    obtain ⟨x, hx, rfl⟩ := List.mem_map.1 hb
    exact hp x hx)
  rw [foW_pre] at h
  have hz : (foW m).size = m.length := by unfold foW; rw [Dist.map_size, Dist.fo_size _ _ _ (Nat.le_refl _)]
  rw [hz] at h
  exact h
theorem voidR_len (X : ByteArray) (m : List Rw) : (voidR X m).length = 9 + m.length := by simp [voidR]; omega

end Go.Proofs.Ytdaneedflpfeaaa
