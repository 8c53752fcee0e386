import Derived.Test.YtdaneedflpfeaaaDoorAround
import Derived.Deep.LoopGhost
namespace Go.Proofs.YtdaneedflpfeaaaDoor
set_option maxRecDepth 100000
open Go.RowKit

/-- Whether a state is small enough. -/
def szB (st : PSt) : Bool := decide (st.nodes.length ≤ 999999) && decide (-(999999 : Int) ≤ st.depth) && decide (st.depth ≤ 999999) && st.nodes.all fun x => decide (-(999999 : Int) ≤ x.depth) && decide (x.depth ≤ 999999)
theorem szB_iff (st : PSt) : szB st = true ↔ sz st 999999 := by
  simp [szB, sz, and_assoc]

/-- Is the next token of that kind? -/
def kq (toks : List Tok) (st : PSt) (l : List UInt8) : Bool := (kindL toks st).toList == l
def openM (k : ByteArray) (st : PSt) : Option PSt := if szB st then some (openL k st) else none
def closeM (st : PSt) : Option PSt := if szB st then some (closeL st) else none
def takeM (toks : List Tok) (st : PSt) : Option PSt := if szB st then some (takeL toks st) else none
def needM (toks : List Tok) (k : ByteArray) (st : PSt) : Option PSt := if szB st then some (needL toks k st) else none
def aroundM (i : Nat) (k : ByteArray) (st : PSt) : Option PSt := if szB st = true ∧ i ≤ st.nodes.length then some (aroundL i k st) else none

def relB (l : List UInt8) : Bool := l == [61, 61] || l == [33, 61] || l == [60] || l == [62]
def sumB (l : List UInt8) : Bool := l == [43] || l == [45]
def prodB (l : List UInt8) : Bool := l == [42] || l == [47]

inductive G where
  | program | funcs | function | params | paramsL | param | statement | block | stmts | emptyS | ifS | whileS | returnS | localS | expr | condition
  | value | set | or | orL | and | andL | rel | sum | sumL | prod | prodL | single | neg | group | nameOrCall | values | valuesL

/-- The parser's methods, as functions on its state, with a bound on the calls within each other; none: the bound, or a size, is too small. -/
def P (toks : List Tok) : Nat → G → PSt → Option PSt
  | 0, _, _ => none
  | n + 1, g, s => match g with
    | .program => do let s ← openM ⟨#[112, 114, 111, 103, 114, 97, 109]⟩ s; let s ← P toks n .funcs s; let s ← needM toks kEnd s; closeM s
    | .funcs => if s.failed == false && !kq toks s [101, 110, 100] then do let s ← P toks n .function s; P toks n .funcs s else some s
    | .function => do
      let s ← openM ⟨#[102, 117, 110, 99, 116, 105, 111, 110]⟩ s; let s ← needM toks kType s; let s ← needM toks kName s; let s ← needM toks ⟨#[40]⟩ s
      let s ← if kq toks s [41] then some s else P toks n .params s
      let s ← needM toks ⟨#[41]⟩ s; let s ← P toks n .block s; closeM s
    | .params => do let s ← P toks n .param s; P toks n .paramsL s
    | .paramsL => if kq toks s [44] then do let s ← takeM toks s; let s ← P toks n .param s; P toks n .paramsL s else some s
    | .param => do let s ← openM ⟨#[112, 97, 114, 97, 109]⟩ s; let s ← needM toks kType s; let s ← needM toks kName s; closeM s
    | .statement =>
      if kq toks s [123] then P toks n .block s else if kq toks s [59] then P toks n .emptyS s else if kq toks s [105, 102] then P toks n .ifS s
      else if kq toks s [119, 104, 105, 108, 101] then P toks n .whileS s else if kq toks s [114, 101, 116, 117, 114, 110] then P toks n .returnS s
      else if kq toks s [116, 121, 112, 101] then P toks n .localS s else P toks n .expr s
    | .block => do let s ← openM ⟨#[98, 108, 111, 99, 107]⟩ s; let s ← needM toks ⟨#[123]⟩ s; let s ← P toks n .stmts s; let s ← needM toks ⟨#[125]⟩ s; closeM s
    | .stmts => if s.failed == false && !kq toks s [125] then do let s ← P toks n .statement s; P toks n .stmts s else some s
    | .emptyS => do let s ← openM ⟨#[101, 109, 112, 116, 121]⟩ s; let s ← needM toks ⟨#[59]⟩ s; closeM s
    | .ifS => do
      let s ← openM ⟨#[105, 102]⟩ s; let s ← needM toks ⟨#[105, 102]⟩ s; let s ← P toks n .condition s; let s ← P toks n .statement s
      let s ← if kq toks s [101, 108, 115, 101] then do let s ← takeM toks s; P toks n .statement s else some s
      closeM s
    | .whileS => do let s ← openM ⟨#[119, 104, 105, 108, 101]⟩ s; let s ← needM toks ⟨#[119, 104, 105, 108, 101]⟩ s; let s ← P toks n .condition s; let s ← P toks n .statement s; closeM s
    | .returnS => do
      let s ← openM ⟨#[114, 101, 116, 117, 114, 110]⟩ s; let s ← needM toks ⟨#[114, 101, 116, 117, 114, 110]⟩ s
      let s ← if kq toks s [59] then some s else P toks n .value s
      let s ← needM toks ⟨#[59]⟩ s; closeM s
    | .localS => do
      let s ← openM ⟨#[108, 111, 99, 97, 108]⟩ s; let s ← needM toks kType s; let s ← needM toks kName s
      let s ← if kq toks s [61] then do let s ← takeM toks s; P toks n .value s else some s
      let s ← needM toks ⟨#[59]⟩ s; closeM s
    | .expr => do let s ← openM ⟨#[101, 120, 112, 114]⟩ s; let s ← P toks n .value s; let s ← needM toks ⟨#[59]⟩ s; closeM s
    | .condition => do let s ← needM toks ⟨#[40]⟩ s; let s ← P toks n .value s; needM toks ⟨#[41]⟩ s
    | .value => if kq toks s [110, 97, 109, 101] && (kindAtL toks s (s.at_ + 1)).toList == [61] then P toks n .set s else P toks n .or s
    | .set => do let s ← openM ⟨#[115, 101, 116]⟩ s; let s ← needM toks kName s; let s ← needM toks ⟨#[61]⟩ s; let s ← P toks n .value s; closeM s
    | .or => do
      let s1 ← P toks n .and s
      if kq toks s1 [124, 124] then do let s1 ← aroundM s.nodes.length ⟨#[111, 114]⟩ s1; let s1 ← P toks n .orL s1; closeM s1 else some s1
    | .orL => if kq toks s [124, 124] then do let s ← takeM toks s; let s ← P toks n .and s; P toks n .orL s else some s
    | .and => do
      let s1 ← P toks n .rel s
      if kq toks s1 [38, 38] then do let s1 ← aroundM s.nodes.length ⟨#[97, 110, 100]⟩ s1; let s1 ← P toks n .andL s1; closeM s1 else some s1
    | .andL => if kq toks s [38, 38] then do let s ← takeM toks s; let s ← P toks n .rel s; P toks n .andL s else some s
    | .rel => do
      let s1 ← P toks n .sum s
      if relB (kindL toks s1).toList then do let s1 ← aroundM s.nodes.length ⟨#[114, 101, 108]⟩ s1; let s1 ← takeM toks s1; let s1 ← P toks n .sum s1; closeM s1 else some s1
    | .sum => do
      let s1 ← P toks n .prod s
      if sumB (kindL toks s1).toList then do let s1 ← aroundM s.nodes.length ⟨#[115, 117, 109]⟩ s1; let s1 ← P toks n .sumL s1; closeM s1 else some s1
    | .sumL => if sumB (kindL toks s).toList then do let s ← takeM toks s; let s ← P toks n .prod s; P toks n .sumL s else some s
    | .prod => do
      let s1 ← P toks n .single s
      if prodB (kindL toks s1).toList then do let s1 ← aroundM s.nodes.length ⟨#[112, 114, 111, 100]⟩ s1; let s1 ← P toks n .prodL s1; closeM s1 else some s1
    | .prodL => if prodB (kindL toks s).toList then do let s ← takeM toks s; let s ← P toks n .single s; P toks n .prodL s else some s
    | .single => if kq toks s [45] || kq toks s [33] then P toks n .neg s else if kq toks s [40] then P toks n .group s else if kq toks s [110, 97, 109, 101] then P toks n .nameOrCall s else needM toks kNumber s
    | .neg => do let s ← openM ⟨#[110, 101, 103]⟩ s; let s ← takeM toks s; let s ← P toks n .single s; closeM s
    | .group => do let s ← openM ⟨#[103, 114, 111, 117, 112]⟩ s; let s ← needM toks ⟨#[40]⟩ s; let s ← P toks n .value s; let s ← needM toks ⟨#[41]⟩ s; closeM s
    | .nameOrCall => do
      let s1 ← needM toks kName s
      if kq toks s1 [40] then do
        let s1 ← aroundM s.nodes.length ⟨#[99, 97, 108, 108]⟩ s1; let s1 ← takeM toks s1
        let s1 ← if kq toks s1 [41] then some s1 else P toks n .values s1
        let s1 ← needM toks ⟨#[41]⟩ s1; closeM s1
      else some s1
    | .values => do let s ← P toks n .value s; P toks n .valuesL s
    | .valuesL => if kq toks s [44] then do let s ← takeM toks s; let s ← P toks n .value s; P toks n .valuesL s else some s

/-- The number of the method (a loop has none). -/
def G.num : G → Nat
  | .program => 24 | .function => 44 | .params => 60 | .param => 75 | .statement => 76 | .block => 61
  | .emptyS => 79 | .ifS => 80 | .whileS => 81 | .returnS => 82 | .localS => 83 | .expr => 84 | .condition => 86
  | .value => 87 | .set => 89 | .or => 90 | .and => 92 | .rel => 95 | .sum => 97 | .prod => 99 | .single => 101
  | .neg => 103 | .group => 104 | .nameOrCall => 105 | .values => 106
  | _ => 0
def G.meth : G → Bool
  | .funcs | .paramsL | .stmts | .orL | .andL | .sumL | .prodL | .valuesL => false
  | _ => true

def Does (f : Nat) (b : Nat) (tv : Value) (toks : List Tok) (w : World) (st' : PSt) : Prop :=
  Calls Tryd.prog f #[.pointer (some ⟨b, 0, none⟩)] w fun e w' => e = .returned (.tuple #[]) ∧ PS b tv toks w' st' ∧ Below b w w'
/-- The contracts of all methods at a bound. -/
def IH (b : Nat) (tv : Value) (toks : List Tok) (n : Nat) : Prop :=
  ∀ g st st' w, g.meth = true → PS b tv toks w st → P toks n g st = some st' → Does g.num b tv toks w st'

section
variable {b : Nat} {tv : Value} {toks : List Tok} {w : World} {st st' : PSt}
theorem openM_any {k : ByteArray} (h : PS b tv toks w st) (he : openM k st = some st') :
    Calls Tryd.prog 42 #[.pointer (some ⟨b, 0, none⟩), .string k] w fun e w' => e = .returned (.tuple #[]) ∧ PS b tv toks w' st' ∧ Below b w w' := by
  unfold openM at he
  by_cases hs : szB st = true
  · rw [if_pos hs] at he; cases he; exact open_any b tv toks w st k h ((szB_iff st).1 hs)
  · rw [if_neg hs] at he; cases he
theorem needM_any {k : ByteArray} (h : PS b tv toks w st) (he : needM toks k st = some st') :
    Calls Tryd.prog 45 #[.pointer (some ⟨b, 0, none⟩), .string k] w fun e w' => e = .returned (.tuple #[]) ∧ PS b tv toks w' st' ∧ Below b w w' := by
  unfold needM at he
  by_cases hs : szB st = true
  · rw [if_pos hs] at he; cases he; exact need_any b tv toks w st k h ((szB_iff st).1 hs)
  · rw [if_neg hs] at he; cases he
theorem takeM_any (h : PS b tv toks w st) (he : takeM toks st = some st') :
    Calls Tryd.prog 62 #[.pointer (some ⟨b, 0, none⟩)] w fun e w' => e = .returned (.tuple #[]) ∧ PS b tv toks w' st' ∧ Below b w w' := by
  unfold takeM at he
  by_cases hs : szB st = true
  · rw [if_pos hs] at he; cases he; exact take_any b tv toks w st h ((szB_iff st).1 hs)
  · rw [if_neg hs] at he; cases he
theorem closeM_any (h : PS b tv toks w st) (he : closeM st = some st') :
    Calls Tryd.prog 46 #[.pointer (some ⟨b, 0, none⟩)] w fun e w' => e = .returned (.tuple #[]) ∧ PS b tv toks w' st' ∧ Below b w w' := by
  unfold closeM at he
  by_cases hs : szB st = true
  · rw [if_pos hs] at he; cases he; exact close_any b tv toks w st h ((szB_iff st).1 hs)
  · rw [if_neg hs] at he; cases he
theorem aroundM_any {i : Nat} {k : ByteArray} (h : PS b tv toks w st) (he : aroundM i k st = some st') :
    Calls Tryd.prog 93 #[.pointer (some ⟨b, 0, none⟩), .int .i64 i, .string k] w fun e w' => e = .returned (.tuple #[]) ∧ PS b tv toks w' st' ∧ Below b w w' := by
  unfold aroundM at he
  by_cases hs : szB st = true ∧ i ≤ st.nodes.length
  · rw [if_pos hs] at he; cases he
    have := openAround_any b tv toks w st i k h (by omega) (by omega) ((szB_iff st).1 hs.1)
    rw [Int.toNat_natCast] at this
    exact this
  · rw [if_neg hs] at he; cases he
theorem kq_any (h : PS b tv toks w st) :
    Calls Tryd.prog 43 #[.pointer (some ⟨b, 0, none⟩)] w fun e w' => e = .returned (.string (kindL toks st)) ∧ w' = w := kind_any b tv toks w st h
end

set_option maxHeartbeats 400000 in
theorem isRelSign_any (k : ByteArray) (w : World) :
    Calls Tryd.prog 98 #[.string k] w fun e w' => e = .returned (.bool (relB k.toList)) ∧ w' = w := by
  cases h1 : (k.toList == [61, 61]) <;> cases h2 : (k.toList == [33, 61]) <;> cases h3 : (k.toList == [60])
  all_goals
    have HF : Hid (relB k.toList = (k.toList == [61, 61] || k.toList == [33, 61] || k.toList == [60] || k.toList == [62])) := rfl
    rw [h1, h2, h3] at HF
    go_enter Tryd.func98, Tryd.ntmps98
    go_wp2_with fail
    go_ret
    exact ⟨ret_bool (by rw [unhide HF]; rfl), rfl⟩
set_option maxHeartbeats 400000 in
theorem isSumSign_any (k : ByteArray) (w : World) :
    Calls Tryd.prog 100 #[.string k] w fun e w' => e = .returned (.bool (sumB k.toList)) ∧ w' = w := by
  cases h1 : (k.toList == [43])
  all_goals
    have HF : Hid (sumB k.toList = (k.toList == [43] || k.toList == [45])) := rfl
    rw [h1] at HF
    go_enter Tryd.func100, Tryd.ntmps100
    go_wp2_with fail
    go_ret
    exact ⟨ret_bool (by rw [unhide HF]; rfl), rfl⟩
set_option maxHeartbeats 400000 in
theorem isProdSign_any (k : ByteArray) (w : World) :
    Calls Tryd.prog 102 #[.string k] w fun e w' => e = .returned (.bool (prodB k.toList)) ∧ w' = w := by
  cases h1 : (k.toList == [42])
  all_goals
    have HF : Hid (prodB k.toList = (k.toList == [42] || k.toList == [47])) := rfl
    rw [h1] at HF
    go_enter Tryd.func102, Tryd.ntmps102
    go_wp2_with fail
    go_ret
    exact ⟨ret_bool (by rw [unhide HF]; rfl), rfl⟩

end Go.Proofs.YtdaneedflpfeaaaDoor
