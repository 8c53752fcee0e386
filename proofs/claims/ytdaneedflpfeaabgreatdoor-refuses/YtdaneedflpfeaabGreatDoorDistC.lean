import Derived.Test.YtdaneedflpfeaabGreatDoorStr
namespace Go.Proofs.YtdaneedflpfeaabGreatDoor
set_option maxRecDepth 100000
namespace Dist
/-- A forest: its first node's label, what stands below it, what stands to the right. -/
inductive Fo (α : Type) where
  | nil : Fo α
  | cons (a : α) (c s : Fo α) : Fo α
namespace Fo
variable {α : Type}
def app : Fo α → Fo α → Fo α
  | nil, g => g
  | cons a c s, g => cons a c (s.app g)
def size : Fo α → Nat
  | nil => 0
  | cons _ c s => 1 + c.size + s.size
theorem size_nil : (nil : Fo α).size = 0 := rfl
theorem size_cons (a : α) (c s : Fo α) : (cons a c s).size = 1 + c.size + s.size := rfl
theorem app_nil (f : Fo α) : f.app nil = f := by
  induction f with
  | nil => rfl
  | cons a c s _ ih => simp [app, ih]
theorem nil_app (f : Fo α) : (nil : Fo α).app f = f := rfl
theorem cons_app (a : α) (c s f : Fo α) : (cons a c s).app f = cons a c (s.app f) := rfl
theorem app_assoc (f g h : Fo α) : (f.app g).app h = f.app (g.app h) := by
  induction f with
  | nil => rfl
  | cons a c s _ ih => simp [app, ih]
theorem size_app (f g : Fo α) : (f.app g).size = f.size + g.size := by
  induction f with
  | nil => simp [size, app]
  | cons a c s _ ih => simp [app, size, ih]; omega
end Fo
open Fo
attribute [local simp] app_nil nil_app cons_app size_app size_nil size_cons
variable {α : Type} [DecidableEq α]
def rel (a b : α) : Nat := if a = b then 0 else 1
theorem rel_self (a : α) : rel a a = 0 := by simp [rel]
theorem rel_symm (a b : α) : rel a b = rel b a := by unfold rel; by_cases h : a = b <;> simp [h, eq_comm]
theorem rel_le (a b : α) : rel a b ≤ 1 := by unfold rel; split <;> omega
theorem rel_tri (a b c : α) : rel a c ≤ rel a b + rel b c := by
  unfold rel
  by_cases h : a = b
  · subst h; simp
  · simp [h]; split <;> omega
/-- From a forest to a forest, in so many steps. -/
inductive Ed : Fo α → Fo α → Nat → Prop
  | nil : Ed nil nil 0
  | del {a c s g n} : Ed (Fo.app c s) g n → Ed (cons a c s) g (n + 1)
  | ins {f b c s n} : Ed f (Fo.app c s) n → Ed f (cons b c s) (n + 1)
  | mat {a c s b c' s' n m} : Ed c c' n → Ed s s' m → Ed (cons a c s) (cons b c' s') (n + m + rel a b)
theorem Ed.cast {f g : Fo α} {n m : Nat} (h : Ed f g n) (e : n = m) : Ed f g m := e ▸ h
theorem Ed.symm {f g : Fo α} {n : Nat} (h : Ed f g n) : Ed g f n := by
  induction h with
  | nil => exact .nil
  | del _ ih => exact .ins ih
  | ins _ ih => exact .del ih
  | mat _ _ ih1 ih2 => exact (Ed.mat ih1 ih2).cast (by rw [rel_symm])
theorem Ed.refl (f : Fo α) : Ed f f 0 := by
  induction f with
  | nil => exact .nil
  | cons a c s ih1 ih2 => exact (Ed.mat ih1 ih2).cast (by simp [rel_self])
theorem Ed.eq_of_zero {f g : Fo α} {n : Nat} (h : Ed f g n) (hn : n = 0) : f = g := by
  induction h with
  | nil => rfl
  | del _ ih => omega
  | ins _ ih => omega
  | @mat a c s b c' s' n m _ _ ih1 ih2 =>
    rw [ih1 (by omega), ih2 (by omega)]
    have : rel a b = 0 := by omega
    unfold rel at this
    split at this
    · next h => rw [h]
    · omega
theorem Ed.append {f g f' g' : Fo α} {n m : Nat} (h : Ed f g n) (h' : Ed f' g' m) : Ed (f.app f') (g.app g') (n + m) := by
  induction h with
  | nil => exact h'.cast (by omega)
  | del _ ih => exact (Ed.del (by rw [← app_assoc]; exact ih)).cast (by omega)
  | ins _ ih => exact (Ed.ins (by rw [← app_assoc]; exact ih)).cast (by omega)
  | mat h1 _ _ ih2 => exact (Ed.mat h1 ih2).cast (by omega)
theorem Ed.all_del (f : Fo α) : ∀ k, f.size = k → Ed f Fo.nil k := by
  intro k
  induction k using Nat.strongRecOn generalizing f with
  | _ k ih =>
    intro hk
    cases f with
    | nil => exact Ed.nil.cast (by simpa using hk)
    | cons a c s =>
      simp at hk
      exact (Ed.del (ih (c.size + s.size) (by omega) (c.app s) (by simp))).cast (by omega)
theorem Ed.to_nil {f g : Fo α} {n : Nat} (h : Ed f g n) (hg : g = Fo.nil) : n = f.size := by
  induction h with
  | nil => rfl
  | del _ ih => have := ih hg; simp at this ⊢; omega
  | ins _ ih => cases hg
  | mat => cases hg
theorem Ed.of_nil {f g : Fo α} {n : Nat} (h : Ed f g n) (hf : f = Fo.nil) : n = g.size := (h.symm).to_nil hf
/-- A node anywhere among the roots goes. -/
theorem Ed.del_mid {f g : Fo α} {n : Nat} (h : Ed f g n) : ∀ (l : Fo α) (a : α) (c s : Fo α), f = l.app (c.app s) → Ed (l.app (cons a c s)) g (n + 1) := by
  induction h with
  | nil =>
    intro l a c s e
    have := congrArg Fo.size e
    simp at this
    cases l with
    | cons => simp at this; omega
    | nil =>
      cases c with
      | cons => simp at this; omega
      | nil => cases s with
        | cons => simp at this; omega
        | nil => exact Ed.del Ed.nil
  | @del x X l1 g n h ih =>
    intro l a c s e
    cases l with
    | nil => rw [nil_app] at e ⊢; exact Ed.del (e ▸ (Ed.del (a := x) h))
    | cons y Y l2 =>
      rw [cons_app] at e
      injection e with e1 e2 e3
      subst e1 e2 e3
      rw [cons_app]
      refine Ed.del ?_
      have := ih (X.app l2) a c s (by rw [app_assoc])
      rw [app_assoc] at this
      exact this
  | @ins f b d t n h ih =>
    intro l a c s e
    exact Ed.ins (ih l a c s e)
  | @mat x X l1 y Y l2 n m h1 h2 ih1 ih2 =>
    intro l a c s e
    cases l with
    | nil => rw [nil_app] at e ⊢; exact Ed.del (e ▸ Ed.mat h1 h2)
    | cons z Z l3 =>
      rw [cons_app] at e
      injection e with e1 e2 e3
      subst e1 e2 e3
      rw [cons_app]
      exact (Ed.mat h1 (ih2 l3 a c s rfl)).cast (by omega)
theorem Ed.ins_mid {f : Fo α} {n : Nat} (l : Fo α) (b : α) (c s : Fo α) (h : Ed f (l.app (c.app s)) n) : Ed f (l.app (cons b c s)) (n + 1) :=
  (Ed.del_mid h.symm l b c s rfl).symm
theorem Ed.trans : ∀ (k : Nat) {f g h : Fo α} {n m : Nat}, f.size + g.size + h.size ≤ k → Ed f g n → Ed g h m → ∃ r, r ≤ n + m ∧ Ed f h r := by
  intro k
  induction k with
  | zero =>
    intro f g h n m hk h1 h2
    cases f with
    | cons => simp at hk
    | nil => cases h with
      | cons => simp at hk
      | nil => exact ⟨0, by omega, .nil⟩
  | succ k ih =>
    intro f g h n m hk h1 h2
    cases h1 with
    | nil => exact ⟨m, by omega, h2⟩
    | @del a c s g n h1 =>
      obtain ⟨r, hr, e⟩ := ih (by simp at hk ⊢; omega) h1 h2
      exact ⟨r + 1, by omega, .del e⟩
    | @ins _ b c s n h1 =>
      cases h2 with
      | del h2 =>
        obtain ⟨r, hr, e⟩ := ih (by simp at hk ⊢; omega) h1 h2
        exact ⟨r, by omega, e⟩
      | ins h2 =>
        obtain ⟨r, hr, e⟩ := ih (by simp at hk ⊢; omega) (Ed.ins h1) h2
        exact ⟨r + 1, by omega, .ins e⟩
      | mat h3 h4 =>
        obtain ⟨r, hr, e⟩ := ih (by simp at hk ⊢; omega) h1 (h3.append h4)
        exact ⟨r + 1, by omega, .ins e⟩
    | @mat a c s b c' s' n1 m1 h3 h4 =>
      cases h2 with
      | del h2 =>
        obtain ⟨r, hr, e⟩ := ih (by simp at hk ⊢; omega) (h3.append h4) h2
        exact ⟨r + 1, by omega, .del e⟩
      | ins h2 =>
        obtain ⟨r, hr, e⟩ := ih (by simp at hk ⊢; omega) (Ed.mat h3 h4) h2
        exact ⟨r + 1, by omega, .ins e⟩
      | @mat _ _ _ x X s3 n2 m2 h5 h6 =>
        obtain ⟨r1, hr1, e1⟩ := ih (by simp at hk ⊢; omega) h3 h5
        obtain ⟨r2, hr2, e2⟩ := ih (by simp at hk ⊢; omega) h4 h6
        exact ⟨_, by have := rel_tri a b x; omega, .mat e1 e2⟩
/-- A step's last roots: one goes, one comes, or the one becomes the other. -/
theorem Ed.last {f g : Fo α} {n : Nat} (h : Ed f g n) : ∀ (l l' : Fo α) (a b : α) (c c' : Fo α), f = l.app (cons a c Fo.nil) → g = l'.app (cons b c' Fo.nil) →
    (∃ m, n = m + 1 ∧ Ed (l.app c) g m) ∨ (∃ m, n = m + 1 ∧ Ed f (l'.app c') m) ∨ (∃ m k, n = m + k + rel a b ∧ Ed l l' m ∧ Ed c c' k) := by
  induction h with
  | nil =>
    intro l l' a b c c' e e'
    have := congrArg Fo.size e
    simp at this; omega
  | @del x X s g n h ih =>
    intro l l' a b c c' e e'
    cases l with
    | nil =>
      rw [nil_app] at e
      injection e with e1 e2 e3
      subst e1 e2 e3
      rw [app_nil] at h
      exact .inl ⟨n, rfl, h⟩
    | cons y Y l2 =>
      rw [cons_app] at e
      injection e with e1 e2 e3
      subst e1 e2 e3
      rcases ih (X.app l2) l' a b c c' (by rw [app_assoc]) e' with ⟨m, hm, q⟩ | ⟨m, hm, q⟩ | ⟨m, k, hm, q1, q2⟩
      · refine .inl ⟨m + 1, by omega, ?_⟩
        rw [cons_app]
        exact .del (by rw [← app_assoc]; exact q)
      · exact .inr (.inl ⟨m + 1, by omega, .del q⟩)
      · exact .inr (.inr ⟨m + 1, k, by omega, .del q1, q2⟩)
  | @ins f y Y s n h ih =>
    intro l l' a b c c' e e'
    cases l' with
    | nil =>
      rw [nil_app] at e'
      injection e' with e1 e2 e3
      subst e1 e2 e3
      rw [app_nil] at h
      exact .inr (.inl ⟨n, rfl, h⟩)
    | cons z Z l2 =>
      rw [cons_app] at e'
      injection e' with e1 e2 e3
      subst e1 e2 e3
      rcases ih l (Y.app l2) a b c c' e (by rw [app_assoc]) with ⟨m, hm, q⟩ | ⟨m, hm, q⟩ | ⟨m, k, hm, q1, q2⟩
      · exact .inl ⟨m + 1, by omega, .ins q⟩
      · refine .inr (.inl ⟨m + 1, by omega, ?_⟩)
        rw [cons_app]
        exact .ins (by rw [← app_assoc]; exact q)
      · exact .inr (.inr ⟨m + 1, k, by omega, .ins q1, q2⟩)
  | @mat x X s y Y s' n m h1 h2 ih1 ih2 =>
    intro l l' a b c c' e e'
    cases l with
    | nil =>
      rw [nil_app] at e
      injection e with e1 e2 e3
      subst e1 e2 e3
      cases l' with
      | nil =>
        rw [nil_app] at e'
        injection e' with e1 e2 e3
        subst e1 e2 e3
        exact .inr (.inr ⟨m, n, by omega, h2, h1⟩)
      | cons z Z l2 =>
        rw [cons_app] at e'
        injection e' with e1 e2 e3
        subst e1 e2 e3
        have hm := h2.of_nil rfl
        simp at hm
        refine .inr (.inl ⟨n + (l2.app c').size + rel x y, by simp; omega, ?_⟩)
        rw [cons_app]
        exact .mat h1 ((Ed.all_del (l2.app c') _ rfl).symm)
    | cons w W l3 =>
      rw [cons_app] at e
      injection e with e1 e2 e3
      subst e1 e2 e3
      cases l' with
      | nil =>
        rw [nil_app] at e'
        injection e' with e1 e2 e3
        subst e1 e2 e3
        have hm := h2.to_nil rfl
        simp at hm
        refine .inl ⟨n + (l3.app c).size + rel x y, by simp; omega, ?_⟩
        rw [cons_app]
        exact .mat h1 (Ed.all_del (l3.app c) _ rfl)
      | cons z Z l2 =>
        rw [cons_app] at e'
        injection e' with e1 e2 e3
        subst e1 e2 e3
        rcases ih2 l3 l2 a b c c' rfl rfl with ⟨k, hm, q⟩ | ⟨k, hm, q⟩ | ⟨k, j, hm, q1, q2⟩
        · refine .inl ⟨n + k + rel x y, by omega, ?_⟩
          rw [cons_app]; exact .mat h1 q
        · refine .inr (.inl ⟨n + k + rel x y, by omega, ?_⟩)
          rw [cons_app]; exact .mat h1 q
        · exact .inr (.inr ⟨n + k + rel x y, j, by omega, .mat h1 q1, q2⟩)
/-- The fewest. -/
def Opt (f g : Fo α) (n : Nat) : Prop := Ed f g n ∧ ∀ m, Ed f g m → n ≤ m
theorem Opt.eq {f g : Fo α} {n m : Nat} (h : Opt f g n) (h' : Opt f g m) : n = m := Nat.le_antisymm (h.2 _ h'.1) (h'.2 _ h.1)
theorem min_of {p : Nat → Prop} {x y : Nat} (hx : p x) (hy : p y) : p (min x y) := by
  rw [Nat.min_def]; split
  · exact hx
  · exact hy
/-- The fewest, reckoned by the first nodes, with fuel. -/
def dlF : Nat → Fo α → Fo α → Nat
  | 0, _, _ => 0
  | _ + 1, .nil, g => g.size
  | _ + 1, .cons a c s, .nil => (Fo.cons a c s).size
  | n + 1, .cons a c s, .cons b c' s' => min (min (dlF n (c.app s) (.cons b c' s')) (dlF n (.cons a c s) (c'.app s')) + 1) (dlF n c c' + rel a b + dlF n s s')
theorem dlF_opt : ∀ (n : Nat) (f g : Fo α), f.size + g.size < n → Opt f g (dlF n f g) := by
  intro n
  induction n with
  | zero => intro f g h; omega
  | succ n ih =>
    intro f g h
    cases f with
    | nil => exact ⟨(Ed.all_del g _ rfl).symm, fun m h => by have := h.of_nil rfl; rw [dlF]; omega⟩
    | cons a c s =>
      cases g with
      | nil => exact ⟨Ed.all_del _ _ rfl, fun m h => by have := h.to_nil rfl; rw [dlF]; omega⟩
      | cons b c' s' =>
        simp only [size_cons] at h
        have h1 := ih (c.app s) (.cons b c' s') (by simp; omega)
        have h2 := ih (.cons a c s) (c'.app s') (by simp; omega)
        have h3 := ih c c' (by omega)
        have h4 := ih s s' (by omega)
        rw [dlF]
        constructor
        · refine min_of (p := Ed _ _) (min_of (p := fun n => Ed _ _ (n + 1)) ?_ ?_) ?_
          · exact .del h1.1
          · exact .ins h2.1
          · exact (Ed.mat h3.1 h4.1).cast (by omega)
        · intro m h
          cases h with
          | del h => have := h1.2 _ h; omega
          | ins h => have := h2.2 _ h; omega
          | mat q1 q2 => have := h3.2 _ q1; have := h4.2 _ q2; omega
def dl (f g : Fo α) : Nat := dlF (f.size + g.size + 1) f g
theorem dl_opt (f g : Fo α) : Opt f g (dl f g) := dlF_opt _ f g (by omega)
theorem dl_eq {f g : Fo α} {n : Nat} (h : Opt f g n) : dl f g = n := (dl_opt f g).eq h
theorem dl_le {f g : Fo α} {n : Nat} (h : Ed f g n) : dl f g ≤ n := (dl_opt f g).2 _ h
theorem dl_ed (f g : Fo α) : Ed f g (dl f g) := (dl_opt f g).1
theorem dl_nil (g : Fo α) : dl Fo.nil g = g.size := dl_eq ⟨(Ed.all_del g _ rfl).symm, fun m h => by have := h.of_nil rfl; omega⟩
theorem dl_nil' (f : Fo α) : dl f Fo.nil = f.size := dl_eq ⟨Ed.all_del f _ rfl, fun m h => by have := h.to_nil rfl; omega⟩
theorem dl_first (a b : α) (c s c' s' : Fo α) :
    dl (cons a c s) (cons b c' s') = min (min (dl (c.app s) (cons b c' s')) (dl (cons a c s) (c'.app s')) + 1) (dl c c' + rel a b + dl s s') := by
  refine dl_eq ⟨?_, ?_⟩
  · refine min_of (p := Ed _ _) (min_of (p := fun n => Ed _ _ (n + 1)) ?_ ?_) ?_
    · exact .del (dl_ed _ _)
    · exact .ins (dl_ed _ _)
    · exact (Ed.mat (dl_ed c c') (dl_ed s s')).cast (by omega)
  · intro m h
    cases h with
    | del h => have := dl_le h; omega
    | ins h => have := dl_le h; omega
    | mat h1 h2 => have := dl_le h1; have := dl_le h2; omega
theorem dl_last (l l' : Fo α) (a b : α) (c c' : Fo α) (k : Nat)
    (hk : (l = Fo.nil ∧ l' = Fo.nil ∧ k = dl c c' + rel a b) ∨ k = dl l l' + dl (cons a c Fo.nil) (cons b c' Fo.nil)) :
    dl (l.app (cons a c Fo.nil)) (l'.app (cons b c' Fo.nil)) =
      min (min (dl (l.app c) (l'.app (cons b c' Fo.nil)) + 1) (dl (l.app (cons a c Fo.nil)) (l'.app c') + 1)) k := by
  refine dl_eq ⟨?_, ?_⟩
  · refine min_of (p := Ed _ _) (min_of (p := Ed _ _) ?_ ?_) ?_
    · exact Ed.del_mid (dl_ed _ _) l a c Fo.nil (by rw [app_nil])
    · exact Ed.ins_mid l' b c' Fo.nil (by rw [app_nil]; exact dl_ed _ _)
    · rcases hk with ⟨rfl, rfl, rfl⟩ | rfl
      · exact (Ed.mat (dl_ed c c') Ed.nil).cast (by omega)
      · exact (dl_ed _ _).append (dl_ed _ _)
  · intro m h
    rcases h.last l l' a b c c' rfl rfl with ⟨m, rfl, q⟩ | ⟨m, rfl, q⟩ | ⟨m, j, rfl, q1, q2⟩
    · have := dl_le q; omega
    · have := dl_le q; omega
    · have h1 := dl_le q1; have h2 := dl_le q2
      have h3 : dl (cons a c Fo.nil) (cons b c' Fo.nil) ≤ j + 0 + rel a b := dl_le (.mat q2 .nil)
      rcases hk with ⟨rfl, rfl, rfl⟩ | rfl
      · omega
      · omega
theorem dl_symm (f g : Fo α) : dl f g = dl g f := dl_eq ⟨(dl_ed g f).symm, fun _ h => dl_le h.symm⟩
theorem dl_tri (f g h : Fo α) : dl f h ≤ dl f g + dl g h := by
  obtain ⟨r, hr, e⟩ := Ed.trans _ (Nat.le_refl _) (dl_ed f g) (dl_ed g h)
  have := dl_le e; omega
theorem dl_zero (f g : Fo α) : dl f g = 0 ↔ f = g := by
  constructor
  · intro h; exact (dl_ed f g).eq_of_zero h
  · rintro rfl; have := dl_le (Ed.refl f); omega
end Dist
end Go.Proofs.YtdaneedflpfeaabGreatDoor

namespace Go.Proofs.YtdaneedflpfeaabGreatDoor
set_option maxRecDepth 100000
namespace Dist
open Fo
attribute [local simp] app_nil nil_app cons_app size_app size_nil size_cons
variable {β : Type}
def Fo.map {γ : Type} (h : β → γ) : Fo β → Fo γ
  | .nil => .nil
  | .cons a c s => .cons (h a) (c.map h) (s.map h)
theorem map_app {γ : Type} (h : β → γ) (f g : Fo β) : (f.app g).map h = (f.map h).app (g.map h) := by
  induction f with
  | nil => rfl
  | cons a c s _ ih => simp [Fo.map, ih]
theorem map_map {γ δ : Type} (h : β → γ) (k : γ → δ) (f : Fo β) : (f.map h).map k = f.map (fun x => k (h x)) := by
  induction f with
  | nil => rfl
  | cons a c s ih1 ih2 => simp [Fo.map, ih1, ih2]
theorem map_size {γ : Type} (h : β → γ) (f : Fo β) : (f.map h).size = f.size := by
  induction f with
  | nil => rfl
  | cons a c s ih1 ih2 => simp [Fo.map, ih1, ih2]
theorem dropWhile_len (p : β → Bool) (l : List β) : (l.dropWhile p).length ≤ l.length := by
  induction l with
  | nil => simp
  | cons x l ih => simp only [List.dropWhile]; split <;> simp <;> omega
theorem takeWhile_len (p : β → Bool) (l : List β) : (l.takeWhile p).length ≤ l.length := by
  induction l with
  | nil => simp
  | cons x l ih => simp only [List.takeWhile]; split <;> simp <;> omega
/-- The forest of rows with depths. -/
def fo (d : β → Int) : List β → Fo β
  | [] => .nil
  | x :: l => .cons x (fo d (l.takeWhile fun y => decide (d x < d y))) (fo d (l.dropWhile fun y => decide (d x < d y)))
  termination_by l => l.length
  decreasing_by
    · have := takeWhile_len (fun y => decide (d x < d y)) l; simp; omega
    · have := dropWhile_len (fun y => decide (d x < d y)) l; simp; omega
theorem while_split (p : β → Bool) (A B : List β) (hA : ∀ x ∈ A, p x = true) (hB : ∀ y, B.head? = some y → p y = false) : (A ++ B).takeWhile p = A ∧ (A ++ B).dropWhile p = B := by
  induction A with
  | nil =>
    cases B with
    | nil => simp
    | cons y B => simp [hB y rfl]
  | cons x A ih =>
    have := ih (fun z hz => hA z (by simp [hz]))
    simp [hA x (by simp), this.1, this.2]
theorem fo_cons (d : β → Int) (x : β) (A B : List β) (hA : ∀ y ∈ A, d x < d y) (hB : ∀ y, B.head? = some y → d y ≤ d x) : fo d (x :: (A ++ B)) = .cons x (fo d A) (fo d B) := by
  obtain ⟨h1, h2⟩ := while_split (fun y => decide (d x < d y)) A B (fun y hy => by simpa using hA y hy) (fun y hy => by simpa using hB y hy)
  rw [fo, h1, h2]
theorem while_parts (p : β → Bool) (l : List β) : l = l.takeWhile p ++ l.dropWhile p ∧ (∀ x ∈ l.takeWhile p, p x = true) ∧ (∀ y, (l.dropWhile p).head? = some y → p y = false) := by
  induction l with
  | nil => simp
  | cons x l ih =>
    by_cases h : p x = true
    · simp only [List.takeWhile, List.dropWhile, h]
      refine ⟨by rw [List.cons_append, ← ih.1], ?_, ih.2.2⟩
      intro y hy
      rcases List.mem_cons.1 hy with rfl | hy
      · exact h
      · exact ih.2.1 y hy
    · have h' : p x = false := by simpa using h
      simp only [List.takeWhile, List.dropWhile, h']
      refine ⟨rfl, by simp, ?_⟩
      intro y hy
      simp at hy; subst hy; exact h'
theorem fo_app (d : β → Int) : ∀ (n : Nat) (A B : List β), A.length ≤ n → (∀ x ∈ A, ∀ y, B.head? = some y → d y ≤ d x) → fo d (A ++ B) = (fo d A).app (fo d B) := by
  intro n
  induction n with
  | zero =>
    intro A B h _
    cases A with
    | nil => simp [fo]
    | cons => simp at h
  | succ n ih =>
    intro A B h hB
    cases A with
    | nil => simp [fo]
    | cons x A =>
      obtain ⟨e, h1, h2⟩ := while_parts (fun y => decide (d x < d y)) A
      have hl := dropWhile_len (fun y => decide (d x < d y)) A
      generalize hP : A.takeWhile (fun y => decide (d x < d y)) = P at *
      generalize hD : A.dropWhile (fun y => decide (d x < d y)) = D at *
      have hx : fo d (x :: A) = .cons x (fo d P) (fo d D) := by rw [fo, hP, hD]
      rw [hx, cons_app, ← ih D B (by simp at h; omega) (fun z hz => hB z (by rw [e]; simp [hz]))]
      rw [List.cons_append, e, List.append_assoc]
      refine fo_cons d x P (D ++ B) (fun y hy => by simpa using h1 y hy) ?_
      intro y hy
      cases D with
      | nil => simp at hy; exact hB x (by simp) y hy
      | cons z D => simp at hy; subst hy; simpa using h2 z rfl
theorem fo_size (d : β → Int) : ∀ (n : Nat) (A : List β), A.length ≤ n → (fo d A).size = A.length := by
  intro n
  induction n with
  | zero =>
    intro A h
    cases A with
    | nil => simp [fo]
    | cons => simp at h
  | succ n ih =>
    intro A h
    cases A with
    | nil => simp [fo]
    | cons x A =>
      have e := congrArg List.length (while_parts (fun y => decide (d x < d y)) A).1
      rw [List.length_append] at e
      rw [fo, size_cons, ih _ (by simp at h; omega), ih _ (by simp at h; omega)]
      simp; omega
theorem fo_map {γ : Type} (d : β → Int) (e : γ → Int) (h : γ → β) (he : ∀ x y, (d (h x) < d (h y)) ↔ e x < e y) : ∀ (n : Nat) (A : List γ), A.length ≤ n → fo d (A.map h) = (fo e A).map h := by
  intro n
  induction n with
  | zero =>
    intro A hA
    cases A with
    | nil => simp [fo, Fo.map]
    | cons => simp at hA
  | succ n ih =>
    intro A hA
    cases A with
    | nil => simp [fo, Fo.map]
    | cons x A =>
      have h1 := takeWhile_len (fun y => decide (e x < e y)) A
      have h2 := dropWhile_len (fun y => decide (e x < e y)) A
      rw [List.map_cons, fo, fo, Fo.map, List.takeWhile_map, List.dropWhile_map]
      have hc : ((fun y => decide (d (h x) < d y)) ∘ h) = (fun y => decide (e x < e y)) := by
        funext y; simp [he]
      rw [hc, ih _ (by simp at hA; omega), ih _ (by simp at hA; omega)]
/-- Part of a list. -/
def sg (L : List β) (a b : Nat) : List β := (L.take b).drop a
theorem sg_self (L : List β) (a : Nat) : sg L a a = [] := by
  unfold sg; rw [List.drop_eq_nil_iff]; simp; omega
theorem sg_len (L : List β) (a b : Nat) (h : b ≤ L.length) : (sg L a b).length = b - a := by
  unfold sg; simp; omega
theorem sg_app (L : List β) (a m b : Nat) (h1 : a ≤ m) (h2 : m ≤ b) : sg L a b = sg L a m ++ sg L m b := by
  unfold sg
  rw [show L.take m = (L.take b).take m by rw [List.take_take, Nat.min_eq_left h2]]
  generalize L.take b = K
  rw [← List.take_append_drop (m - a) (K.drop a), List.drop_drop, List.take_drop]
  rw [show a + (m - a) = m by omega]
theorem sg_get (L : List β) (a b i : Nat) : (sg L a b)[i]? = if a + i < b then L[a + i]? else none := by
  unfold sg
  rw [List.getElem?_drop, List.getElem?_take]
theorem sg_cons (L : List β) (a b : Nat) (x : β) (h1 : a < b) (hx : L[a]? = some x) : sg L a b = x :: sg L (a + 1) b := by
  rw [sg_app L a (a + 1) b (by omega) (by omega)]
  have : sg L a (a + 1) = [x] := by
    apply List.ext_getElem?
    intro i
    rw [sg_get]
    cases i with
    | zero => simpa using hx
    | succ i => rw [if_neg (by omega)]; simp
  rw [this]; rfl
theorem sg_mem {L : List β} {a b : Nat} {x : β} (h : x ∈ sg L a b) : ∃ i, a ≤ i ∧ i < b ∧ L[i]? = some x := by
  obtain ⟨i, hi⟩ := List.mem_iff_getElem?.1 h
  rw [sg_get] at hi
  split at hi
  · exact ⟨a + i, by omega, by assumption, hi⟩
  · cases hi
theorem sg_head {L : List β} {a b : Nat} {x : β} (h : (sg L a b).head? = some x) : a < b ∧ L[a]? = some x := by
  rw [List.head?_eq_getElem?, sg_get] at h
  split at h
  · exact ⟨by omega, by simpa using h⟩
  · cases h
/-- e is where what stands below u ends. -/
structure Sub (d : β → Int) (L : List β) (u e : Nat) : Prop where
  lt : u < e
  le : e ≤ L.length
  deep : ∀ x y i, u < i → i < e → L[u]? = some x → L[i]? = some y → d x < d y
  stop : ∀ x y, L[u]? = some x → L[e]? = some y → d y ≤ d x
theorem Sub.inside {d : β → Int} {L : List β} {u e k b : Nat} (h : Sub d L u e) (h' : Sub d L k b) (h1 : k < u) (h2 : u < b) : e ≤ b := by
  rcases Nat.lt_or_ge b e with q | q
  · have := h.le; have := h.lt; have := h'.lt
    obtain ⟨x, hx⟩ : ∃ x, L[u]? = some x := ⟨_, List.getElem?_eq_getElem (by omega)⟩
    obtain ⟨y, hy⟩ : ∃ x, L[k]? = some x := ⟨_, List.getElem?_eq_getElem (by omega)⟩
    obtain ⟨z, hz⟩ : ∃ x, L[b]? = some x := ⟨_, List.getElem?_eq_getElem (by omega)⟩
    have a1 := h.deep x z b h2 q hx hz
    have a2 := h'.stop y z hy hz
    have a3 := h'.deep y x u h1 h2 hy hx
    omega
  · exact q
theorem fo_sub {d : β → Int} {L : List β} {u e b : Nat} {x : β} (h : Sub d L u e) (hb : e ≤ b) (hx : L[u]? = some x) :
    fo d (sg L u b) = .cons x (fo d (sg L (u + 1) e)) (fo d (sg L e b)) ∧ fo d (sg L (u + 1) b) = (fo d (sg L (u + 1) e)).app (fo d (sg L e b)) := by
  have hlt := h.lt
  have h1 : ∀ y ∈ sg L (u + 1) e, d x < d y := by
    intro y hy
    obtain ⟨i, hi1, hi2, hi3⟩ := sg_mem hy
    exact h.deep x y i (by omega) hi2 hx hi3
  have h2 : ∀ y, (sg L e b).head? = some y → d y ≤ d x := fun y hy => h.stop x y hx (sg_head hy).2
  constructor
  · rw [sg_cons L u b x (by omega) hx, sg_app L (u + 1) e b (by omega) hb]
    exact fo_cons d x _ _ h1 h2
  · rw [sg_app L (u + 1) e b (by omega) hb]
    refine fo_app d _ _ _ (Nat.le_refl _) ?_
    intro z hz y hy
    have := h1 z hz; have := h2 y hy
    omega
/-- Children first: the nodes, by each the first of its subtree. -/
def po : Fo β → Nat → List (β × Nat)
  | .nil, _ => []
  | .cons a c s, k => po c k ++ (a, k) :: po s (k + c.size + 1)
theorem po_len (f : Fo β) (k : Nat) : (po f k).length = f.size := by
  induction f generalizing k with
  | nil => rfl
  | cons a c s ih1 ih2 => simp [po, ih1, ih2]; omega
theorem po_app (f g : Fo β) (k : Nat) : po (f.app g) k = po f k ++ po g (k + f.size) := by
  induction f generalizing k with
  | nil => simp [po]
  | cons a c s _ ih =>
    simp only [po, cons_app, ih, size_cons, List.append_assoc, List.cons_append]
    rw [show k + c.size + 1 + s.size = k + (1 + c.size + s.size) by omega]
theorem po_shift (f : Fo β) (k j : Nat) : po f (k + j) = (po f k).map fun x => (x.1, x.2 + j) := by
  induction f generalizing k with
  | nil => rfl
  | cons a c s ih1 ih2 =>
    simp only [po, List.map_append, List.map_cons, ih1]
    rw [show k + j + c.size + 1 = (k + c.size + 1) + j by omega, ih2]
/-- At each place the first of its subtree stands no later, and what stands between begins no sooner. -/
structure Nest (X : List (β × Nat)) : Prop where
  le : ∀ (u : Nat) x f, X[u]? = some (x, f) → f ≤ u
  in_ : ∀ (u v : Nat) x f y g, X[u]? = some (x, f) → X[v]? = some (y, g) → f ≤ v → v ≤ u → f ≤ g
/-- po lies in X from k on. -/
def Lies (X : List (β × Nat)) (f : Fo β) (k : Nat) : Prop := ∀ i, i < f.size → X[k + i]? = (po f k)[i]?
theorem po_range (f : Fo β) (k : Nat) : ∀ (u : Nat) x g, (po f k)[u]? = some (x, g) → k ≤ g ∧ g ≤ k + u := by
  induction f generalizing k with
  | nil => intro u x g h; simp [po] at h
  | cons a c s ih1 ih2 =>
    intro u x g h
    have hc := po_len c k
    rcases Nat.lt_trichotomy u c.size with q | q | q
    · rw [po, List.getElem?_append_left (by omega)] at h
      exact ih1 k u x g h
    · rw [po, List.getElem?_append_right (by omega), hc, q, Nat.sub_self] at h
      simp at h; omega
    · rw [po, List.getElem?_append_right (by omega), hc] at h
      obtain ⟨v, rfl⟩ : ∃ v, u = c.size + 1 + v := ⟨u - c.size - 1, by omega⟩
      rw [show c.size + 1 + v - c.size = v + 1 by omega, List.getElem?_cons_succ] at h
      have := ih2 _ v x g h
      omega
theorem po_nest (f : Fo β) (k : Nat) : ∀ (u v : Nat) x g y h, (po f k)[u]? = some (x, g) → (po f k)[v]? = some (y, h) → g ≤ k + v → v ≤ u → g ≤ h := by
  induction f generalizing k with
  | nil => intro u v x g y h e; simp [po] at e
  | cons a c s ih1 ih2 =>
    intro u v x g y h e1 e2 h1 h2
    have hc := po_len c k
    have r2 := po_range _ k v y h e2
    rcases Nat.lt_trichotomy u c.size with q | q | q
    · rw [po, List.getElem?_append_left (by omega)] at e1 e2
      exact ih1 k u v x g y h e1 e2 h1 h2
    · rw [po, List.getElem?_append_right (by omega), hc, q, Nat.sub_self] at e1
      simp at e1; omega
    · rw [po, List.getElem?_append_right (by omega), hc] at e1
      obtain ⟨u', rfl⟩ : ∃ v, u = c.size + 1 + v := ⟨u - c.size - 1, by omega⟩
      rw [show c.size + 1 + u' - c.size = u' + 1 by omega, List.getElem?_cons_succ] at e1
      have r1 := po_range s _ u' x g e1
      rw [po, List.getElem?_append_right (by omega), hc] at e2
      obtain ⟨v', rfl⟩ : ∃ v', v = c.size + 1 + v' := ⟨v - c.size - 1, by omega⟩
      rw [show c.size + 1 + v' - c.size = v' + 1 by omega, List.getElem?_cons_succ] at e2
      exact ih2 _ u' v' x g y h e1 e2 (by omega) (by omega)
theorem nest_po (f : Fo β) : Nest (po f 0) where
  le u x g h := by have := po_range f 0 u x g h; omega
  in_ u v x g y h e1 e2 h1 h2 := po_nest f 0 u v x g y h e1 e2 (by omega) h2
/-- The forest of the nodes from a on, ahead of e. -/
def pf (X : List (β × Nat)) (a e : Nat) : Fo β :=
  match e with
  | 0 => .nil
  | e' + 1 => if a ≤ e' then (match X[e']? with
    | some (x, f) => if f ≤ e' then (pf X a f).app (.cons x (pf X f e') .nil) else .nil
    | none => .nil) else .nil
  termination_by e
theorem pf_done (X : List (β × Nat)) (a e : Nat) (h : e ≤ a) : pf X a e = .nil := by
  rw [pf.eq_def]; split
  · rfl
  · rw [if_neg (by omega)]
theorem pf_step {X : List (β × Nat)} {a u f : Nat} {x : β} (h : a ≤ u) (hx : X[u]? = some (x, f)) (hf : f ≤ u) : pf X a (u + 1) = (pf X a f).app (.cons x (pf X f u) .nil) := by
  rw [pf.eq_def]
  simp only [h, if_true, hx, hf]
theorem pf_cut {X : List (β × Nat)} (hX : Nest X) (a m : Nat) : ∀ (e : Nat), a ≤ m → m ≤ e → e ≤ X.length → (∀ (v : Nat) x f, m ≤ v → v < e → X[v]? = some (x, f) → m ≤ f) → pf X a e = (pf X a m).app (pf X m e) := by
  intro e
  induction e using Nat.strongRecOn with
  | _ e ih =>
    intro h1 h2 h3 h4
    rcases Nat.lt_or_ge m e with q | q
    · obtain ⟨u, rfl⟩ : ∃ u, e = u + 1 := ⟨e - 1, by omega⟩
      obtain ⟨x, f, hx⟩ : ∃ x f, X[u]? = some (x, f) := ⟨_, _, List.getElem?_eq_getElem (by omega)⟩
      have hf := hX.le u x f hx
      have hm := h4 u x f (by omega) (by omega) hx
      rw [pf_step (by omega) hx hf, pf_step (by omega) hx hf, ih f (by omega) h1 hm (by omega) (fun v y g hv1 hv2 => h4 v y g hv1 (by omega)), app_assoc]
    · have : m = e := by omega
      subst this
      rw [pf_done X m m (by omega), app_nil]
theorem pf_lies {X : List (β × Nat)} (hX : Nest X) (f : Fo β) : ∀ k, k + f.size ≤ X.length → Lies X f k → pf X k (k + f.size) = f := by
  induction f with
  | nil => intro k _ _; exact pf_done _ _ _ (by simp)
  | cons a c s ih1 ih2 =>
    intro k hk hl
    simp at hk
    have hc := po_len c k
    have lc : Lies X c k := fun i hi => by
      rw [hl i (by simp; omega), po, List.getElem?_append_left (by omega)]
    have la : X[k + c.size]? = some (a, k) := by
      rw [hl c.size (by simp; omega), po, List.getElem?_append_right (by omega), hc, Nat.sub_self]; rfl
    have ls : Lies X s (k + c.size + 1) := fun i hi => by
      rw [show k + c.size + 1 + i = k + (c.size + 1 + i) by omega, hl _ (by simp; omega), po, List.getElem?_append_right (by omega), hc, show c.size + 1 + i - c.size = i + 1 by omega, List.getElem?_cons_succ]
    rw [pf_cut hX k (k + c.size + 1) _ (by omega) (by simp; omega) (by simp; omega) ?_, pf_step (by omega) la (by omega), pf_done X k k (by omega), ih1 k (by omega) lc, nil_app, cons_app, nil_app]
    · congr 1
      rw [show k + (cons a c s).size = k + c.size + 1 + s.size by simp; omega]
      exact ih2 _ (by omega) ls
    · intro v x g h1 h2 hv
      obtain ⟨i, rfl⟩ : ∃ i, v = k + c.size + 1 + i := ⟨v - (k + c.size + 1), by omega⟩
      have hi : i < s.size := by simp at h2; omega
      rw [ls i hi] at hv
      exact (po_range s _ i x g hv).1
theorem pf_po (f : Fo β) : pf (po f 0) 0 f.size = f := by
  have := pf_lies (nest_po f) f 0 (by rw [po_len]; omega) (fun i _ => by rw [Nat.zero_add])
  simpa using this
end Dist
end Go.Proofs.YtdaneedflpfeaabGreatDoor

namespace Go.Proofs.YtdaneedflpfeaabGreatDoor
set_option maxRecDepth 100000
namespace Dist
open Fo
attribute [local simp] app_nil nil_app cons_app size_app size_nil size_cons
variable {β γ α : Type} [DecidableEq α]
/-- The fewest steps between parts of two lists of rows. -/
def dS (d : β → Int) (h : β → α) (L M : List β) (a b a' b' : Nat) : Nat := dl ((fo d (sg L a b)).map h) ((fo d (sg M a' b')).map h)
theorem dS_end (d : β → Int) (h : β → α) (L M : List β) (b a' b' : Nat) (hb : b' ≤ M.length) : dS d h L M b b a' b' = b' - a' := by
  unfold dS
  rw [sg_self, fo, Fo.map, dl_nil, map_size, fo_size d _ _ (Nat.le_refl _), sg_len _ _ _ hb]
theorem dS_end' (d : β → Int) (h : β → α) (L M : List β) (a b b' : Nat) (hb : b ≤ L.length) : dS d h L M a b b' b' = b - a := by
  unfold dS
  rw [sg_self M, fo, Fo.map, dl_nil', map_size, fo_size d _ _ (Nat.le_refl _), sg_len _ _ _ hb]
theorem dS_step {d : β → Int} {h : β → α} {L M : List β} {u e b v e' b' : Nat} {x y : β} (h1 : Sub d L u e) (h2 : Sub d M v e') (hb : e ≤ b) (hb' : e' ≤ b') (hx : L[u]? = some x) (hy : M[v]? = some y) :
    dS d h L M u b v b' = min (min (dS d h L M (u + 1) b v b') (dS d h L M u b (v + 1) b') + 1) (dS d h L M (u + 1) e (v + 1) e' + rel (h x) (h y) + dS d h L M e b e' b') := by
  obtain ⟨a1, a2⟩ := fo_sub h1 hb hx
  obtain ⟨c1, c2⟩ := fo_sub h2 hb' hy
  unfold dS
  rw [a1, a2, c1, c2, map_app, map_app, Fo.map, Fo.map, dl_first]
theorem pf_size {X : List (β × Nat)} (hX : Nest X) (a : Nat) : ∀ (e : Nat), a ≤ e → e ≤ X.length → (∀ (v : Nat) x f, a ≤ v → v < e → X[v]? = some (x, f) → a ≤ f) → (pf X a e).size = e - a := by
  intro e
  induction e using Nat.strongRecOn generalizing a with
  | _ e ih =>
    intro h1 h2 h3
    rcases Nat.lt_or_ge a e with q | q
    · obtain ⟨u, rfl⟩ : ∃ u, e = u + 1 := ⟨e - 1, by omega⟩
      obtain ⟨x, f, hx⟩ : ∃ x f, X[u]? = some (x, f) := ⟨_, _, List.getElem?_eq_getElem (by omega)⟩
      have hf := hX.le u x f hx
      have hm := h3 u x f (by omega) (by omega) hx
      rw [pf_step (by omega) hx hf, size_app, size_cons, size_nil, ih f (by omega) a hm (by omega) (fun v y g hv1 hv2 => h3 v y g hv1 (by omega)), ih u (by omega) f hf (by omega) (fun v y g hv1 hv2 hy => hX.in_ u v x f y g hx hy hv1 (by omega))]
      omega
    · rw [pf_done _ _ _ q]; simp; omega
/-- The fewest steps between beginnings. -/
def dP (h : β → α) (X Y : List (β × Nat)) (a e b e' : Nat) : Nat := dl ((pf X a e).map h) ((pf Y b e').map h)
/-- What begins at a. -/
def From (X : List (β × Nat)) (a e : Nat) : Prop := ∀ (v : Nat) x f, a ≤ v → v < e → X[v]? = some (x, f) → a ≤ f
theorem From.of {X : List (β × Nat)} (hX : Nest X) {i a : Nat} {x : β} (h : X[i]? = some (x, a)) : From X a (i + 1) := fun v y f h1 h2 hv => hX.in_ i v x a y f h hv h1 (by omega)
theorem From.mono {X : List (β × Nat)} {a e e' : Nat} (h : From X a e) (he : e' ≤ e) : From X a e' := fun v y f h1 h2 hv => h v y f h1 (by omega) hv
theorem dP_end {h : β → α} {X Y : List (β × Nat)} (hY : Nest Y) (a b e' : Nat) (h1 : b ≤ e') (h2 : e' ≤ Y.length) (hF : From Y b e') : dP h X Y a a b e' = e' - b := by
  unfold dP
  rw [pf_done X a a (by omega), Fo.map, dl_nil, map_size, pf_size hY b e' h1 h2 hF]
theorem dP_end' {h : β → α} {X Y : List (β × Nat)} (hX : Nest X) (a b e : Nat) (h1 : a ≤ e) (h2 : e ≤ X.length) (hF : From X a e) : dP h X Y a e b b = e - a := by
  unfold dP
  rw [pf_done Y b b (by omega), Fo.map, dl_nil', map_size, pf_size hX a e h1 h2 hF]
theorem dP_step {h : β → α} {X Y : List (β × Nat)} (hX : Nest X) (hY : Nest Y) {a u f b v g : Nat} {x y : β} (hu : X[u]? = some (x, f)) (hv : Y[v]? = some (y, g)) (h1 : a ≤ f) (h2 : b ≤ g) (k : Nat)
    (hk : (f = a ∧ g = b ∧ k = dP h X Y a u b v + rel (h x) (h y)) ∨ k = dP h X Y a f b g + dP h X Y f (u + 1) g (v + 1)) :
    dP h X Y a (u + 1) b (v + 1) = min (min (dP h X Y a u b (v + 1) + 1) (dP h X Y a (u + 1) b v + 1)) k := by
  have hf := hX.le u x f hu
  have hg := hY.le v y g hv
  have ul : u < X.length := (List.getElem?_eq_some_iff.1 hu).1
  have vl : v < Y.length := (List.getElem?_eq_some_iff.1 hv).1
  have a1 := pf_step (show a ≤ u by omega) hu hf
  have a2 := pf_step (show b ≤ v by omega) hv hg
  have c1 := pf_cut hX a f u h1 hf (by omega) (fun w z j q1 q2 q3 => hX.in_ u w x f z j hu q3 q1 (by omega))
  have c2 := pf_cut hY b g v h2 hg (by omega) (fun w z j q1 q2 q3 => hY.in_ v w y g z j hv q3 q1 (by omega))
  have s1 := pf_step hf hu hf
  have s2 := pf_step hg hv hg
  rw [pf_done X f f (Nat.le_refl _), nil_app] at s1
  rw [pf_done Y g g (Nat.le_refl _), nil_app] at s2
  unfold dP at hk ⊢
  have key := dl_last ((pf X a f).map h) ((pf Y b g).map h) (h x) (h y) ((pf X f u).map h) ((pf Y g v).map h) k ?_
  · rw [a1, a2, map_app, map_app, c1, c2, map_app, map_app]
    exact key
  · rcases hk with ⟨rfl, rfl, rfl⟩ | rfl
    · refine .inl ⟨?_, ?_, rfl⟩
      · rw [pf_done X f f (Nat.le_refl _)]; rfl
      · rw [pf_done Y g g (Nat.le_refl _)]; rfl
    · refine .inr ?_
      rw [s1, s2]; rfl
/-- Both below one node that stays. -/
theorem dl_root (r : α) (f g : Fo α) : dl (cons r f .nil) (cons r g .nil) = dl f g := by
  apply Nat.le_antisymm
  · have := dl_le (Ed.mat (a := r) (b := r) (dl_ed f g) Ed.nil)
    rw [rel_self] at this; omega
  · have h := dl_ed (cons r f .nil) (cons r g .nil)
    generalize dl (cons r f .nil) (cons r g .nil) = n at h
    cases h with
    | del h =>
      rw [app_nil] at h
      have h1 := dl_le h
      have h2 : dl (cons r g .nil) g ≤ 0 + 1 := dl_le (.del (by rw [app_nil]; exact Ed.refl g))
      have := dl_tri f (cons r g .nil) g
      omega
    | ins h =>
      rw [app_nil] at h
      have h1 := dl_le h
      have h2 : dl f (cons r f .nil) ≤ 0 + 1 := dl_le (.ins (by rw [app_nil]; exact Ed.refl f))
      have := dl_tri f (cons r f .nil) g
      omega
    | mat h1 h2 =>
      have := dl_le h1
      omega
end Dist
end Go.Proofs.YtdaneedflpfeaabGreatDoor
