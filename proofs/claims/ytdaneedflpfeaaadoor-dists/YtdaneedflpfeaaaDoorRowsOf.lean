import Derived.Test.YtdaneedflpfeaaaDoorJunk
namespace Go.Proofs.YtdaneedflpfeaaaDoor
set_option maxRecDepth 100000
open Go.RowKit

def minG : G → Nat
  | .funcs | .paramsL | .stmts | .orL | .andL | .sumL | .prodL | .valuesL => 0
  | _ => 1
def minC : Gr → Nat
  | .need _ => 1 | .take => 1 | .call g => minG g | .seq a b => minC a + minC b | .ite _ a b => min (minC a) (minC b) | .skip => 0 | .node _ a => minC a | .wrap _ a _ _ => minC a
def slackG : G → Int
  | .funcs | .paramsL | .stmts | .orL | .andL | .sumL | .prodL | .valuesL => 0
  | .single => 9 | .neg => 9 | .group => 9 | .prod => 8 | .sum => 7 | .rel => 7 | .and => 6 | .nameOrCall => 9 | _ => 5
def slackB : Gr → Int
  | .need _ => 9 | .take => 9 | .call g => slackG g | .seq a b => slackB a + slackB b | .ite _ a b => min (slackB a) (slackB b) | .skip => 0 | .node _ a => slackB a - 1
  | .wrap _ a _ b => min (slackB a) (slackB a + slackB b - 1)
theorem tables2 (g : G) : minG g ≤ minC (body g) ∧ slackG g ≤ slackB (body g) ∧ 0 ≤ slackG g := by cases g <;> decide

/-- What is known of the rows that a rule makes. -/
structure Fact (T k : Nat) (l : List Rw) (j : Nat) (mn : Nat) (sl : Int) : Prop where
  ge : k + mn ≤ j
  le : k ≤ T → j ≤ T
  few : (l.length : Int) + sl ≤ 10 * ((j : Int) - k)
  deep : ∀ x ∈ l, x.deep < l.length

theorem Fact.seq {T k j i mn mn2 : Nat} {sl sl2 : Int} {l m : List Rw} (h : Fact T k l j mn sl) (h2 : Fact T j m i mn2 sl2) : Fact T k (l ++ m) i (mn + mn2) (sl + sl2) := by
  refine ⟨by have := h.ge; have := h2.ge; omega, fun hk => h2.le (h.le hk), by have := h.few; have := h2.few; rw [List.length_append]; omega, fun x hx => ?_⟩
  rw [List.length_append]
  rcases List.mem_append.1 hx with hx | hx
  · have := h.deep x hx; omega
  · have := h2.deep x hx; omega
theorem Fact.node {T k j mn : Nat} {sl : Int} {l : List Rw} (h : Fact T k l j mn sl) (kd : ByteArray) : Fact T k (nodeR kd l) j mn (sl - 1) := by
  refine ⟨h.ge, h.le, by have := h.few; simp only [nodeR, List.length_cons, List.length_map]; omega, fun x hx => ?_⟩
  simp only [nodeR, List.length_cons, List.length_map]
  rcases List.mem_cons.1 hx with rfl | hx
  · exact Nat.succ_pos _
  · obtain ⟨y, hy, rfl⟩ := List.mem_map.1 hx
    have := h.deep y hy
    show y.deep + 1 < _; omega
theorem Fact.weak {T k j mn mn2 : Nat} {sl sl2 : Int} {l : List Rw} (h : Fact T k l j mn sl) (h1 : mn2 ≤ mn) (h2 : sl2 ≤ sl) : Fact T k l j mn2 sl2 :=
  ⟨by have := h.ge; omega, h.le, by have := h.few; omega, h.deep⟩
theorem Fact.one {toks : List Tok} {k : Nat} {t : Tok} (h : toks[k]? = some t) (x : ByteArray) : Fact toks.length k [⟨0, false, x⟩] (k + 1) 1 9 := by
  have hlt : k < toks.length := by
    rcases Nat.lt_or_ge k toks.length with g | g
    · exact g
    · rw [List.getElem?_eq_none g] at h; cases h
  exact ⟨Nat.le_refl _, fun _ => hlt, by simp; omega, fun x hx => by simp at hx; subst hx; simp⟩

theorem rowsB (toks : List Tok) (f : G → Nat → Option Res) (ih : ∀ g k l j, f g k = some (.ok l j) → Fact toks.length k l j (minG g) (slackG g)) :
    ∀ b k l j, Ab toks f b k = some (.ok l j) → Fact toks.length k l j (minC b) (slackB b) := by
  intro b
  induction b with
  | need kd =>
    intro k l j h
    simp only [Ab] at h
    split at h
    · rename_i t ht
      split at h
      · cases h; exact Fact.one ht t.text
      · cases h
    · cases h
  | take =>
    intro k l j h
    simp only [Ab] at h
    split at h
    · rename_i t ht; cases h; exact Fact.one ht t.text
    · cases h
  | call g => intro k l j h; exact ih g k l j h
  | seq a b iha ihb =>
    intro k l j h
    simp only [Ab] at h
    split at h
    · cases h
    · cases h
    · rename_i l1 j1 h1
      split at h
      · cases h
      · cases h
      · rename_i l2 j2 h2
        cases h
        exact (iha _ _ _ h1).seq (ihb _ _ _ h2)
  | ite c a b iha ihb =>
    intro k l j h
    simp only [Ab] at h
    split at h
    · exact (iha _ _ _ h).weak (Nat.min_le_left _ _) (Int.min_le_left _ _)
    · exact (ihb _ _ _ h).weak (Nat.min_le_right _ _) (Int.min_le_right _ _)
  | skip => intro k l j h; cases h; exact ⟨Nat.le_refl _, fun h => h, by simp [slackB], fun x hx => by cases hx⟩
  | node kd a iha =>
    intro k l j h
    simp only [Ab] at h
    split at h
    · cases h
    · cases h
    · rename_i l1 j1 h1; cases h; exact (iha _ _ _ h1).node kd
  | wrap kd a c b iha ihb =>
    intro k l j h
    simp only [Ab] at h
    split at h
    · cases h
    · cases h
    · rename_i l1 j1 h1
      split at h
      · split at h
        · cases h
        · cases h
        · rename_i l2 j2 h2
          cases h
          exact (((iha _ _ _ h1).seq (ihb _ _ _ h2)).node kd).weak (by simp only [minC]; omega) (Int.min_le_right _ _)
      · cases h
        exact (iha _ _ _ h1).weak (Nat.le_refl _) (Int.min_le_left _ _)

theorem rowsG (toks : List Tok) (n : Nat) : ∀ g k l j, Ag toks n g k = some (.ok l j) → Fact toks.length k l j (minG g) (slackG g) := by
  induction n with
  | zero => intro g k l j h; cases h
  | succ n ih =>
    intro g k l j h
    exact (rowsB toks _ ih (body g) k l j h).weak (tables2 g).1 (tables2 g).2.1

end Go.Proofs.YtdaneedflpfeaaaDoor
