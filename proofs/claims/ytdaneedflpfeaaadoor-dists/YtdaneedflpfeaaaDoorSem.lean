import Derived.Test.YtdaneedflpfeaaaDoorGram
namespace Go.Proofs.YtdaneedflpfeaaaDoor
set_option maxRecDepth 100000
open Go.RowKit

/-- The kind of a token (none behind the last). -/
def kindA (toks : List Tok) (k : Nat) : ByteArray := match toks[k]? with | none => kNone | some t => t.kind
def condK (l : List UInt8) (l2 : List UInt8) : Cond → Bool
  | .is m => l == m
  | .go m => !(l == m)
  | .rel => relB l
  | .sum => sumB l
  | .prod => prodB l
  | .set => l == [110, 97, 109, 101] && l2 == [61]
  | .sign => l == [45] || l == [33]
def condA (toks : List Tok) (k : Nat) (c : Cond) : Bool := condK (kindA toks k).data.toList (kindA toks (k + 1)).data.toList c
def lNone : List UInt8 := [110, 111, 110, 101]
theorem kNone_list : kNone.toList = lNone := by rw [Go.ByteArray.toList_eq]; rfl
/-- In a parser that has failed. -/
def condF : Cond → Bool
  | .go _ => false
  | c => condK lNone lNone c

theorem kindL_ok {toks : List Tok} {s : PSt} (h : s.failed = false) : kindL toks s = kindA toks s.at_ := by simp only [kindL, kindAtL, kindA, h]; rfl
theorem kindAtL_ok {toks : List Tok} {s : PSt} {i : Nat} (h : s.failed = false) : kindAtL toks s i = kindA toks i := by simp only [kindAtL, kindA, h]; rfl
theorem kindAtL_no {toks : List Tok} {s : PSt} {i : Nat} (h : s.failed = true) : kindAtL toks s i = kNone := by simp [kindAtL, h]
theorem condP_ok {toks : List Tok} {s : PSt} (h : s.failed = false) (c : Cond) : condP toks s c = condA toks s.at_ c := by
  cases c <;> simp [condP, condA, condK, kq, kindL_ok h, kindAtL_ok h, h, Go.ByteArray.toList_eq]
theorem condP_no {toks : List Tok} {s : PSt} (h : s.failed = true) (c : Cond) : condP toks s c = condF c := by
  cases c <;> simp [condP, condF, condK, kq, kindL, kindAtL_no h, h, kNone_list]

/-- A row: a node's depth below where the rule began, whether it is inner, its text. -/
structure Rw where
  deep : Nat
  inner : Bool
  text : ByteArray
def Rw.up (r : Rw) : Rw := { r with deep := r.deep + 1 }
def nodeR (k : ByteArray) (l : List Rw) : List Rw := ⟨0, true, k⟩ :: l.map Rw.up
inductive Res where
  | ok (l : List Rw) (k : Nat)
  | fail (k : Nat)

/-- What a rule makes of the tokens from a place on. -/
def Ab (toks : List Tok) (f : G → Nat → Option Res) : Gr → Nat → Option Res
  | .need kd, k => match toks[k]? with
    | some t => if t.kind = kd then some (.ok [⟨0, false, t.text⟩] (k + 1)) else some (.fail k)
    | none => some (.fail k)
  | .take, k => match toks[k]? with
    | some t => some (.ok [⟨0, false, t.text⟩] (k + 1))
    | none => none
  | .call g, k => f g k
  | .seq a b, k => match Ab toks f a k with
    | none => none
    | some (.fail j) => some (.fail j)
    | some (.ok l j) => match Ab toks f b j with
      | none => none
      | some (.fail i) => some (.fail i)
      | some (.ok m i) => some (.ok (l ++ m) i)
  | .ite c a b, k => if condA toks k c then Ab toks f a k else Ab toks f b k
  | .skip, k => some (.ok [] k)
  | .node kd a, k => match Ab toks f a k with
    | none => none
    | some (.fail j) => some (.fail j)
    | some (.ok l j) => some (.ok (nodeR kd l) j)
  | .wrap kd a c b, k => match Ab toks f a k with
    | none => none
    | some (.fail j) => some (.fail j)
    | some (.ok l j) => if condA toks j c then match Ab toks f b j with
        | none => none
        | some (.fail i) => some (.fail i)
        | some (.ok m i) => some (.ok (nodeR kd (l ++ m)) i)
      else some (.ok l j)
def Ag (toks : List Tok) : Nat → G → Nat → Option Res
  | 0, _, _ => none
  | n + 1, g, k => Ab toks (Ag toks n) (body g) k

/-! ## What fails goes on, and changes little -/
def costG : G → Nat
  | .program => 2 | .function => 8 | .params => 2 | .param => 2 | .statement => 2 | .block => 2 | .emptyS => 2 | .ifS => 4 | .whileS => 4 | .returnS => 2 | .localS => 2 | .expr => 2
  | .set => 2 | .neg => 2 | .group => 2
  | _ => 0
def rankF : G → Nat
  | .single => 1 | .prod => 2 | .sum => 3 | .rel => 4 | .and => 5 | .or => 6 | .value => 7 | .expr => 8 | .condition => 8 | .statement => 9 | .param => 1 | .paramsL => 1 | .params => 2
  | .funcs => 1 | .stmts => 1 | .block => 2 | .function => 3 | .emptyS => 1 | .ifS => 10 | .whileS => 10 | .returnS => 8 | .localS => 1 | .set => 8 | .orL => 1 | .andL => 1 | .sumL => 1 | .prodL => 1
  | .neg => 2 | .group => 8 | .nameOrCall => 1 | .values => 8 | .valuesL => 1 | .program => 2
def costF : Gr → Nat
  | .call g => costG g
  | .seq a b => costF a + costF b
  | .ite c a b => if condF c then costF a else costF b
  | .node _ a => costF a + 2
  | .wrap _ a c b => if condF c then costF a + costF b + 2 else costF a
  | _ => 0
def leadF : Gr → Nat
  | .call g => rankF g
  | .seq a b => max (leadF a) (leadF b)
  | .ite c a b => if condF c then leadF a else leadF b
  | .node _ a => leadF a
  | .wrap _ a c b => if condF c then max (leadF a) (leadF b) else leadF a
  | _ => 0
/-- No rule wraps, nor asks for a token that is none, in a parser that has failed. -/
def fineF : Gr → Bool
  | .need k => lNone != k.data.toList
  | .seq a b => fineF a && fineF b
  | .ite _ a b => fineF a && fineF b
  | .node _ a => fineF a
  | .wrap _ a c b => !condF c && fineF a && fineF b
  | _ => true
theorem tables (g : G) : costF (body g) ≤ costG g ∧ leadF (body g) < rankF g ∧ fineF (body g) = true ∧ costG g ≤ 8 ∧ rankF g ≤ 10 := by cases g <;> decide

end Go.Proofs.YtdaneedflpfeaaaDoor
