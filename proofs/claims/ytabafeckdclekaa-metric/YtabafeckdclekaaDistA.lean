import Derived.Test.YtabafeckdclekaaStr
namespace Go.Proofs.Ytabafeckdclekaa
set_option maxRecDepth 100000
namespace Dist
/-- A forest: its first node's label, what stands below it, what stands to the right. -/
inductive Fo (α : Type) where
  | nil : Fo α
  | cons (a : α) (c s : Fo α) : Fo α
namespace Fo
variable {α : Type}
def app : Fo α → Fo α → Fo α
  | nil, g => g
  | cons a c s, g => cons a c (s.app g)
def size : Fo α → Nat
  | nil => 0
  | cons _ c s => 1 + c.size + s.size
theorem size_nil : (nil : Fo α).size = 0 := rfl
theorem size_cons (a : α) (c s : Fo α) : (cons a c s).size = 1 + c.size + s.size := rfl
theorem app_nil (f : Fo α) : f.app nil = f := by
  induction f with
  | nil => rfl
  | cons a c s _ ih => simp [app, ih]
theorem nil_app (f : Fo α) : (nil : Fo α).app f = f := rfl
theorem cons_app (a : α) (c s f : Fo α) : (cons a c s).app f = cons a c (s.app f) := rfl
theorem app_assoc (f g h : Fo α) : (f.app g).app h = f.app (g.app h) := by
  induction f with
  | nil => rfl
  | cons a c s _ ih => simp [app, ih]
theorem size_app (f g : Fo α) : (f.app g).size = f.size + g.size := by
  induction f with
  | nil => simp [size, app]
  | cons a c s _ ih => simp [app, size, ih]; omega
end Fo
open Fo
attribute [local simp] app_nil nil_app cons_app size_app size_nil size_cons
variable {α : Type} [DecidableEq α]
def rel (a b : α) : Nat := if a = b then 0 else 1
theorem rel_self (a : α) : rel a a = 0 := by simp [rel]
theorem rel_symm (a b : α) : rel a b = rel b a := by unfold rel; by_cases h : a = b <;> simp [h, eq_comm]
theorem rel_le (a b : α) : rel a b ≤ 1 := by unfold rel; split <;> omega
theorem rel_tri (a b c : α) : rel a c ≤ rel a b + rel b c := by
  unfold rel
  by_cases h : a = b
  · subst h; simp
  · simp [h]; split <;> omega
/-- From a forest to a forest, in so many steps. -/
inductive Ed : Fo α → Fo α → Nat → Prop
  | nil : Ed nil nil 0
  | del {a c s g n} : Ed (Fo.app c s) g n → Ed (cons a c s) g (n + 1)
  | ins {f b c s n} : Ed f (Fo.app c s) n → Ed f (cons b c s) (n + 1)
  | mat {a c s b c' s' n m} : Ed c c' n → Ed s s' m → Ed (cons a c s) (cons b c' s') (n + m + rel a b)
theorem Ed.cast {f g : Fo α} {n m : Nat} (h : Ed f g n) (e : n = m) : Ed f g m := e ▸ h
theorem Ed.symm {f g : Fo α} {n : Nat} (h : Ed f g n) : Ed g f n := by
  induction h with
  | nil => exact .nil
  | del _ ih => exact .ins ih
  | ins _ ih => exact .del ih
  | mat _ _ ih1 ih2 => exact (Ed.mat ih1 ih2).cast (by rw [rel_symm])
theorem Ed.refl (f : Fo α) : Ed f f 0 := by
  induction f with
  | nil => exact .nil
  | cons a c s ih1 ih2 => exact (Ed.mat ih1 ih2).cast (by simp [rel_self])
theorem Ed.eq_of_zero {f g : Fo α} {n : Nat} (h : Ed f g n) (hn : n = 0) : f = g := by
  induction h with
  | nil => rfl
  | del _ ih => omega
  | ins _ ih => omega
  | @mat a c s b c' s' n m _ _ ih1 ih2 =>
    rw [ih1 (by omega), ih2 (by omega)]
    have : rel a b = 0 := by omega
    unfold rel at this
    split at this
    · next h => rw [h]
    · omega
theorem Ed.append {f g f' g' : Fo α} {n m : Nat} (h : Ed f g n) (h' : Ed f' g' m) : Ed (f.app f') (g.app g') (n + m) := by
  induction h with
  | nil => exact h'.cast (by omega)
  | del _ ih => exact (Ed.del (by rw [← app_assoc]; exact ih)).cast (by omega)
  | ins _ ih => exact (Ed.ins (by rw [← app_assoc]; exact ih)).cast (by omega)
  | mat h1 _ _ ih2 => exact (Ed.mat h1 ih2).cast (by omega)
theorem Ed.all_del (f : Fo α) : ∀ k, f.size = k → Ed f Fo.nil k := by
  intro k
  induction k using Nat.strongRecOn generalizing f with
  | _ k ih =>
    intro hk
    cases f with
    | nil => exact Ed.nil.cast (by simpa using hk)
    | cons a c s =>
      simp at hk
      exact (Ed.del (ih (c.size + s.size) (by omega) (c.app s) (by simp))).cast (by omega)
theorem Ed.to_nil {f g : Fo α} {n : Nat} (h : Ed f g n) (hg : g = Fo.nil) : n = f.size := by
  induction h with
  | nil => rfl
  | del _ ih => have := ih hg; simp at this ⊢; omega
  | ins _ ih => cases hg
  | mat => cases hg
theorem Ed.of_nil {f g : Fo α} {n : Nat} (h : Ed f g n) (hf : f = Fo.nil) : n = g.size := (h.symm).to_nil hf
/-- A node anywhere among the roots goes. -/
theorem Ed.del_mid {f g : Fo α} {n : Nat} (h : Ed f g n) : ∀ (l : Fo α) (a : α) (c s : Fo α), f = l.app (c.app s) → Ed (l.app (cons a c s)) g (n + 1) := by
  induction h with
  | nil =>
    intro l a c s e
    have := congrArg Fo.size e
    simp at this
    cases l with
    | cons => simp at this; omega
    | nil =>
      cases c with
      | cons => simp at this; omega
      | nil => cases s with
        | cons => simp at this; omega
        | nil => exact Ed.del Ed.nil
  | @del x X l1 g n h ih =>
    intro l a c s e
    cases l with
    | nil => rw [nil_app] at e ⊢; exact Ed.del (e ▸ (Ed.del (a := x) h))
    | cons y Y l2 =>
      rw [cons_app] at e
      injection e with e1 e2 e3
      subst e1 e2 e3
      rw [cons_app]
      refine Ed.del ?_
      have := ih (X.app l2) a c s (by rw [app_assoc])
      rw [app_assoc] at this
      exact this
  | @ins f b d t n h ih =>
    intro l a c s e
    exact Ed.ins (ih l a c s e)
  | @mat x X l1 y Y l2 n m h1 h2 ih1 ih2 =>
    intro l a c s e
    cases l with
    | nil => rw [nil_app] at e ⊢; exact Ed.del (e ▸ Ed.mat h1 h2)
    | cons z Z l3 =>
      rw [cons_app] at e
      injection e with e1 e2 e3
      subst e1 e2 e3
      rw [cons_app]
      exact (Ed.mat h1 (ih2 l3 a c s rfl)).cast (by omega)
theorem Ed.ins_mid {f : Fo α} {n : Nat} (l : Fo α) (b : α) (c s : Fo α) (h : Ed f (l.app (c.app s)) n) : Ed f (l.app (cons b c s)) (n + 1) :=
  (Ed.del_mid h.symm l b c s rfl).symm
theorem Ed.trans : ∀ (k : Nat) {f g h : Fo α} {n m : Nat}, f.size + g.size + h.size ≤ k → Ed f g n → Ed g h m → ∃ r, r ≤ n + m ∧ Ed f h r := by
  intro k
  induction k with
  | zero =>
    intro f g h n m hk h1 h2
    cases f with
    | cons => simp at hk
    | nil => cases h with
      | cons => simp at hk
      | nil => exact ⟨0, by omega, .nil⟩
  | succ k ih =>
    intro f g h n m hk h1 h2
    cases h1 with
    | nil => exact ⟨m, by omega, h2⟩
    | @del a c s g n h1 =>
      obtain ⟨r, hr, e⟩ := ih (by simp at hk ⊢; omega) h1 h2
      exact ⟨r + 1, by omega, .del e⟩
    | @ins _ b c s n h1 =>
      cases h2 with
      | del h2 =>
        obtain ⟨r, hr, e⟩ := ih (by simp at hk ⊢; omega) h1 h2
        exact ⟨r, by omega, e⟩
      | ins h2 =>
        obtain ⟨r, hr, e⟩ := ih (by simp at hk ⊢; omega) (Ed.ins h1) h2
        exact ⟨r + 1, by omega, .ins e⟩
      | mat h3 h4 =>
        obtain ⟨r, hr, e⟩ := ih (by simp at hk ⊢; omega) h1 (h3.append h4)
        exact ⟨r + 1, by omega, .ins e⟩
    | @mat a c s b c' s' n1 m1 h3 h4 =>
      cases h2 with
      | del h2 =>
        obtain ⟨r, hr, e⟩ := ih (by simp at hk ⊢; omega) (h3.append h4) h2
        exact ⟨r + 1, by omega, .del e⟩
      | ins h2 =>
        obtain ⟨r, hr, e⟩ := ih (by simp at hk ⊢; omega) (Ed.mat h3 h4) h2
        exact ⟨r + 1, by omega, .ins e⟩
      | @mat _ _ _ x X s3 n2 m2 h5 h6 =>
        obtain ⟨r1, hr1, e1⟩ := ih (by simp at hk ⊢; omega) h3 h5
        obtain ⟨r2, hr2, e2⟩ := ih (by simp at hk ⊢; omega) h4 h6
        exact ⟨_, by have := rel_tri a b x; omega, .mat e1 e2⟩
/-- A step's last roots: one goes, one comes, or the one becomes the other. -/
theorem Ed.last {f g : Fo α} {n : Nat} (h : Ed f g n) : ∀ (l l' : Fo α) (a b : α) (c c' : Fo α), f = l.app (cons a c Fo.nil) → g = l'.app (cons b c' Fo.nil) →
    (∃ m, n = m + 1 ∧ Ed (l.app c) g m) ∨ (∃ m, n = m + 1 ∧ Ed f (l'.app c') m) ∨ (∃ m k, n = m + k + rel a b ∧ Ed l l' m ∧ Ed c c' k) := by
  induction h with
  | nil =>
    intro l l' a b c c' e e'
    have := congrArg Fo.size e
    simp at this; omega
  | @del x X s g n h ih =>
    intro l l' a b c c' e e'
    cases l with
    | nil =>
      rw [nil_app] at e
      injection e with e1 e2 e3
      subst e1 e2 e3
      rw [app_nil] at h
      exact .inl ⟨n, rfl, h⟩
    | cons y Y l2 =>
      rw [cons_app] at e
      injection e with e1 e2 e3
      subst e1 e2 e3
      rcases ih (X.app l2) l' a b c c' (by rw [app_assoc]) e' with ⟨m, hm, q⟩ | ⟨m, hm, q⟩ | ⟨m, k, hm, q1, q2⟩
      · refine .inl ⟨m + 1, by omega, ?_⟩
        rw [cons_app]
        exact .del (by rw [← app_assoc]; exact q)
      · exact .inr (.inl ⟨m + 1, by omega, .del q⟩)
      · exact .inr (.inr ⟨m + 1, k, by omega, .del q1, q2⟩)
  | @ins f y Y s n h ih =>
    intro l l' a b c c' e e'
    cases l' with
    | nil =>
      rw [nil_app] at e'
      injection e' with e1 e2 e3
      subst e1 e2 e3
      rw [app_nil] at h
      exact .inr (.inl ⟨n, rfl, h⟩)
    | cons z Z l2 =>
      rw [cons_app] at e'
      injection e' with e1 e2 e3
      subst e1 e2 e3
      rcases ih l (Y.app l2) a b c c' e (by rw [app_assoc]) with ⟨m, hm, q⟩ | ⟨m, hm, q⟩ | ⟨m, k, hm, q1, q2⟩
      · exact .inl ⟨m + 1, by omega, .ins q⟩
      · refine .inr (.inl ⟨m + 1, by omega, ?_⟩)
        rw [cons_app]
        exact .ins (by rw [← app_assoc]; exact q)
      · exact .inr (.inr ⟨m + 1, k, by omega, .ins q1, q2⟩)
  | @mat x X s y Y s' n m h1 h2 ih1 ih2 =>
    intro l l' a b c c' e e'
    cases l with
    | nil =>
      rw [nil_app] at e
      injection e with e1 e2 e3
      subst e1 e2 e3
      cases l' with
      | nil =>
        rw [nil_app] at e'
        injection e' with e1 e2 e3
        subst e1 e2 e3
        exact .inr (.inr ⟨m, n, by omega, h2, h1⟩)
      | cons z Z l2 =>
        rw [cons_app] at e'
        injection e' with e1 e2 e3
        subst e1 e2 e3
        have hm := h2.of_nil rfl
        simp at hm
        refine .inr (.inl ⟨n + (l2.app c').size + rel x y, by simp; omega, ?_⟩)
        rw [cons_app]
        exact .mat h1 ((Ed.all_del (l2.app c') _ rfl).symm)
    | cons w W l3 =>
      rw [cons_app] at e
      injection e with e1 e2 e3
      subst e1 e2 e3
      cases l' with
      | nil =>
        rw [nil_app] at e'
        injection e' with e1 e2 e3
        subst e1 e2 e3
        have hm := h2.to_nil rfl
        simp at hm
        refine .inl ⟨n + (l3.app c).size + rel x y, by simp; omega, ?_⟩
        rw [cons_app]
        exact .mat h1 (Ed.all_del (l3.app c) _ rfl)
      | cons z Z l2 =>
        rw [cons_app] at e'
        injection e' with e1 e2 e3
        subst e1 e2 e3
        rcases ih2 l3 l2 a b c c' rfl rfl with ⟨k, hm, q⟩ | ⟨k, hm, q⟩ | ⟨k, j, hm, q1, q2⟩
        · refine .inl ⟨n + k + rel x y, by omega, ?_⟩
          rw [cons_app]; exact .mat h1 q
        · refine .inr (.inl ⟨n + k + rel x y, by omega, ?_⟩)
          rw [cons_app]; exact .mat h1 q
        · exact .inr (.inr ⟨n + k + rel x y, j, by omega, .mat h1 q1, q2⟩)
/-- The fewest. -/
def Opt (f g : Fo α) (n : Nat) : Prop := Ed f g n ∧ ∀ m, Ed f g m → n ≤ m
theorem Opt.eq {f g : Fo α} {n m : Nat} (h : Opt f g n) (h' : Opt f g m) : n = m := Nat.le_antisymm (h.2 _ h'.1) (h'.2 _ h.1)
theorem min_of {p : Nat → Prop} {x y : Nat} (hx : p x) (hy : p y) : p (min x y) := by
  rw [Nat.min_def]; split
  · exact hx
  · exact hy
/-- The fewest, reckoned by the first nodes, with fuel. -/
def dlF : Nat → Fo α → Fo α → Nat
  | 0, _, _ => 0
  | _ + 1, .nil, g => g.size
  | _ + 1, .cons a c s, .nil => (Fo.cons a c s).size
  | n + 1, .cons a c s, .cons b c' s' => min (min (dlF n (c.app s) (.cons b c' s')) (dlF n (.cons a c s) (c'.app s')) + 1) (dlF n c c' + rel a b + dlF n s s')
theorem dlF_opt : ∀ (n : Nat) (f g : Fo α), f.size + g.size < n → Opt f g (dlF n f g) := by
  intro n
  induction n with
  | zero => intro f g h; omega
  | succ n ih =>
    intro f g h
    cases f with
    | nil => exact ⟨(Ed.all_del g _ rfl).symm, fun m h => by have := h.of_nil rfl; rw [dlF]; omega⟩
    | cons a c s =>
      cases g with
      | nil => exact ⟨Ed.all_del _ _ rfl, fun m h => by have := h.to_nil rfl; rw [dlF]; omega⟩
      | cons b c' s' =>
        simp only [size_cons] at h
        have h1 := ih (c.app s) (.cons b c' s') (by simp; omega)
        have h2 := ih (.cons a c s) (c'.app s') (by simp; omega)
        have h3 := ih c c' (by omega)
        have h4 := ih s s' (by omega)
        rw [dlF]
        constructor
        · refine min_of (p := Ed _ _) (min_of (p := fun n => Ed _ _ (n + 1)) ?_ ?_) ?_
          · exact .del h1.1
          · exact .ins h2.1
          · exact (Ed.mat h3.1 h4.1).cast (by omega)
        · intro m h
          cases h with
          | del h => have := h1.2 _ h; omega
          | ins h => have := h2.2 _ h; omega
          | mat q1 q2 => have := h3.2 _ q1; have := h4.2 _ q2; omega
def dl (f g : Fo α) : Nat := dlF (f.size + g.size + 1) f g
theorem dl_opt (f g : Fo α) : Opt f g (dl f g) := dlF_opt _ f g (by omega)
theorem dl_eq {f g : Fo α} {n : Nat} (h : Opt f g n) : dl f g = n := (dl_opt f g).eq h
theorem dl_le {f g : Fo α} {n : Nat} (h : Ed f g n) : dl f g ≤ n := (dl_opt f g).2 _ h
theorem dl_ed (f g : Fo α) : Ed f g (dl f g) := (dl_opt f g).1
theorem dl_nil (g : Fo α) : dl Fo.nil g = g.size := dl_eq ⟨(Ed.all_del g _ rfl).symm, fun m h => by have := h.of_nil rfl; omega⟩
theorem dl_nil' (f : Fo α) : dl f Fo.nil = f.size := dl_eq ⟨Ed.all_del f _ rfl, fun m h => by have := h.to_nil rfl; omega⟩
theorem dl_first (a b : α) (c s c' s' : Fo α) :
    dl (cons a c s) (cons b c' s') = min (min (dl (c.app s) (cons b c' s')) (dl (cons a c s) (c'.app s')) + 1) (dl c c' + rel a b + dl s s') := by
  refine dl_eq ⟨?_, ?_⟩
  · refine min_of (p := Ed _ _) (min_of (p := fun n => Ed _ _ (n + 1)) ?_ ?_) ?_
    · exact .del (dl_ed _ _)
    · exact .ins (dl_ed _ _)
    · exact (Ed.mat (dl_ed c c') (dl_ed s s')).cast (by omega)
  · intro m h
    cases h with
    | del h => have := dl_le h; omega
    | ins h => have := dl_le h; omega
    | mat h1 h2 => have := dl_le h1; have := dl_le h2; omega
theorem dl_last (l l' : Fo α) (a b : α) (c c' : Fo α) (k : Nat)
    (hk : (l = Fo.nil ∧ l' = Fo.nil ∧ k = dl c c' + rel a b) ∨ k = dl l l' + dl (cons a c Fo.nil) (cons b c' Fo.nil)) :
    dl (l.app (cons a c Fo.nil)) (l'.app (cons b c' Fo.nil)) =
      min (min (dl (l.app c) (l'.app (cons b c' Fo.nil)) + 1) (dl (l.app (cons a c Fo.nil)) (l'.app c') + 1)) k := by
  refine dl_eq ⟨?_, ?_⟩
  · refine min_of (p := Ed _ _) (min_of (p := Ed _ _) ?_ ?_) ?_
    · exact Ed.del_mid (dl_ed _ _) l a c Fo.nil (by rw [app_nil])
    · exact Ed.ins_mid l' b c' Fo.nil (by rw [app_nil]; exact dl_ed _ _)
    · rcases hk with ⟨rfl, rfl, rfl⟩ | rfl
      · exact (Ed.mat (dl_ed c c') Ed.nil).cast (by omega)
      · exact (dl_ed _ _).append (dl_ed _ _)
  · intro m h
    rcases h.last l l' a b c c' rfl rfl with ⟨m, rfl, q⟩ | ⟨m, rfl, q⟩ | ⟨m, j, rfl, q1, q2⟩
    · have := dl_le q; omega
    · have := dl_le q; omega
    · have h1 := dl_le q1; have h2 := dl_le q2
      have h3 : dl (cons a c Fo.nil) (cons b c' Fo.nil) ≤ j + 0 + rel a b := dl_le (.mat q2 .nil)
      rcases hk with ⟨rfl, rfl, rfl⟩ | rfl
      · omega
      · omega
theorem dl_symm (f g : Fo α) : dl f g = dl g f := dl_eq ⟨(dl_ed g f).symm, fun _ h => dl_le h.symm⟩
theorem dl_tri (f g h : Fo α) : dl f h ≤ dl f g + dl g h := by
  obtain ⟨r, hr, e⟩ := Ed.trans _ (Nat.le_refl _) (dl_ed f g) (dl_ed g h)
  have := dl_le e; omega
theorem dl_zero (f g : Fo α) : dl f g = 0 ↔ f = g := by
  constructor
  · intro h; exact (dl_ed f g).eq_of_zero h
  · rintro rfl; have := dl_le (Ed.refl f); omega
end Dist
end Go.Proofs.Ytabafeckdclekaa
