import Derived.Test.YtdaneedflpfeaabGreatDoorState
import Derived.Deep.LoopGhost
namespace Go.Proofs.YtdaneedflpfeaabGreatDoor
set_option maxRecDepth 100000
open Go.RowKit

/-- Whether a state is small enough. -/
def szB (st : PSt) : Bool := decide (st.nodes.length ≤ 999999) && decide (-(999999 : Int) ≤ st.depth) && decide (st.depth ≤ 999999) && st.nodes.all fun x => decide (-(999999 : Int) ≤ x.depth) && decide (x.depth ≤ 999999)
theorem szB_iff (st : PSt) : szB st = true ↔ sz st 999999 := by
  simp [szB, sz, and_assoc]

/-- Is the next token of that kind? -/
def kq (toks : List Tok) (st : PSt) (l : List UInt8) : Bool := (kindL toks st).toList == l
def openM (k : ByteArray) (st : PSt) : Option PSt := if szB st then some (openL k st) else none
def closeM (st : PSt) : Option PSt := if szB st then some (closeL st) else none
def takeM (toks : List Tok) (st : PSt) : Option PSt := if szB st then some (takeL toks st) else none
def needM (toks : List Tok) (k : ByteArray) (st : PSt) : Option PSt := if szB st then some (needL toks k st) else none
def aroundM (i : Nat) (k : ByteArray) (st : PSt) : Option PSt := if szB st = true ∧ i ≤ st.nodes.length then some (aroundL i k st) else none

def relB (l : List UInt8) : Bool := l == [61, 61] || l == [33, 61] || l == [60] || l == [62]
def sumB (l : List UInt8) : Bool := l == [43] || l == [45]
def prodB (l : List UInt8) : Bool := l == [42] || l == [47]

inductive G where
  | program | funcs | function | params | paramsL | param | statement | block | stmts | emptyS | ifS | whileS | returnS | localS | expr | condition
  | value | set | or | orL | and | andL | rel | sum | sumL | prod | prodL | single | neg | group | nameOrCall | values | valuesL

/-- The parser's methods, as functions on its state, with a bound on the calls within each other; none: the bound, or a size, is too small. -/
def P (toks : List Tok) : Nat → G → PSt → Option PSt
  | 0, _, _ => none
  | n + 1, g, s => match g with
    | .program => do let s ← openM ⟨#[112, 114, 111, 103, 114, 97, 109]⟩ s; let s ← P toks n .funcs s; let s ← needM toks kEnd s; closeM s
    | .funcs => if s.failed == false && !kq toks s [101, 110, 100] then do let s ← P toks n .function s; P toks n .funcs s else some s
    | .function => do
      let s ← openM ⟨#[102, 117, 110, 99, 116, 105, 111, 110]⟩ s; let s ← needM toks kType s; let s ← needM toks kName s; let s ← needM toks ⟨#[40]⟩ s
      let s ← if kq toks s [41] then some s else P toks n .params s
      let s ← needM toks ⟨#[41]⟩ s; let s ← P toks n .block s; closeM s
    | .params => do let s ← P toks n .param s; P toks n .paramsL s
    | .paramsL => if kq toks s [44] then do let s ← takeM toks s; let s ← P toks n .param s; P toks n .paramsL s else some s
    | .param => do let s ← openM ⟨#[112, 97, 114, 97, 109]⟩ s; let s ← needM toks kType s; let s ← needM toks kName s; closeM s
    | .statement =>
      if kq toks s [123] then P toks n .block s else if kq toks s [59] then P toks n .emptyS s else if kq toks s [105, 102] then P toks n .ifS s
      else if kq toks s [119, 104, 105, 108, 101] then P toks n .whileS s else if kq toks s [114, 101, 116, 117, 114, 110] then P toks n .returnS s
      else if kq toks s [116, 121, 112, 101] then P toks n .localS s else P toks n .expr s
    | .block => do let s ← openM ⟨#[98, 108, 111, 99, 107]⟩ s; let s ← needM toks ⟨#[123]⟩ s; let s ← P toks n .stmts s; let s ← needM toks ⟨#[125]⟩ s; closeM s
    | .stmts => if s.failed == false && !kq toks s [125] then do let s ← P toks n .statement s; P toks n .stmts s else some s
    | .emptyS => do let s ← openM ⟨#[101, 109, 112, 116, 121]⟩ s; let s ← needM toks ⟨#[59]⟩ s; closeM s
    | .ifS => do
      let s ← openM ⟨#[105, 102]⟩ s; let s ← needM toks ⟨#[105, 102]⟩ s; let s ← P toks n .condition s; let s ← P toks n .statement s
      let s ← if kq toks s [101, 108, 115, 101] then do let s ← takeM toks s; P toks n .statement s else some s
      closeM s
    | .whileS => do let s ← openM ⟨#[119, 104, 105, 108, 101]⟩ s; let s ← needM toks ⟨#[119, 104, 105, 108, 101]⟩ s; let s ← P toks n .condition s; let s ← P toks n .statement s; closeM s
    | .returnS => do
      let s ← openM ⟨#[114, 101, 116, 117, 114, 110]⟩ s; let s ← needM toks ⟨#[114, 101, 116, 117, 114, 110]⟩ s
      let s ← if kq toks s [59] then some s else P toks n .value s
      let s ← needM toks ⟨#[59]⟩ s; closeM s
    | .localS => do
      let s ← openM ⟨#[108, 111, 99, 97, 108]⟩ s; let s ← needM toks kType s; let s ← needM toks kName s
      let s ← if kq toks s [61] then do let s ← takeM toks s; P toks n .value s else some s
      let s ← needM toks ⟨#[59]⟩ s; closeM s
    | .expr => do let s ← openM ⟨#[101, 120, 112, 114]⟩ s; let s ← P toks n .value s; let s ← needM toks ⟨#[59]⟩ s; closeM s
    | .condition => do let s ← needM toks ⟨#[40]⟩ s; let s ← P toks n .value s; needM toks ⟨#[41]⟩ s
    | .value => if kq toks s [110, 97, 109, 101] && (kindAtL toks s (s.at_ + 1)).toList == [61] then P toks n .set s else P toks n .or s
    | .set => do let s ← openM ⟨#[115, 101, 116]⟩ s; let s ← needM toks kName s; let s ← needM toks ⟨#[61]⟩ s; let s ← P toks n .value s; closeM s
    | .or => do
      let s1 ← P toks n .and s
      if kq toks s1 [124, 124] then do let s1 ← aroundM s.nodes.length ⟨#[111, 114]⟩ s1; let s1 ← P toks n .orL s1; closeM s1 else some s1
    | .orL => if kq toks s [124, 124] then do let s ← takeM toks s; let s ← P toks n .and s; P toks n .orL s else some s
    | .and => do
      let s1 ← P toks n .rel s
      if kq toks s1 [38, 38] then do let s1 ← aroundM s.nodes.length ⟨#[97, 110, 100]⟩ s1; let s1 ← P toks n .andL s1; closeM s1 else some s1
    | .andL => if kq toks s [38, 38] then do let s ← takeM toks s; let s ← P toks n .rel s; P toks n .andL s else some s
    | .rel => do
      let s1 ← P toks n .sum s
      if relB (kindL toks s1).toList then do let s1 ← aroundM s.nodes.length ⟨#[114, 101, 108]⟩ s1; let s1 ← takeM toks s1; let s1 ← P toks n .sum s1; closeM s1 else some s1
    | .sum => do
      let s1 ← P toks n .prod s
      if sumB (kindL toks s1).toList then do let s1 ← aroundM s.nodes.length ⟨#[115, 117, 109]⟩ s1; let s1 ← P toks n .sumL s1; closeM s1 else some s1
    | .sumL => if sumB (kindL toks s).toList then do let s ← takeM toks s; let s ← P toks n .prod s; P toks n .sumL s else some s
    | .prod => do
      let s1 ← P toks n .single s
      if prodB (kindL toks s1).toList then do let s1 ← aroundM s.nodes.length ⟨#[112, 114, 111, 100]⟩ s1; let s1 ← P toks n .prodL s1; closeM s1 else some s1
    | .prodL => if prodB (kindL toks s).toList then do let s ← takeM toks s; let s ← P toks n .single s; P toks n .prodL s else some s
    | .single => if kq toks s [45] || kq toks s [33] then P toks n .neg s else if kq toks s [40] then P toks n .group s else if kq toks s [110, 97, 109, 101] then P toks n .nameOrCall s else needM toks kNumber s
    | .neg => do let s ← openM ⟨#[110, 101, 103]⟩ s; let s ← takeM toks s; let s ← P toks n .single s; closeM s
    | .group => do let s ← openM ⟨#[103, 114, 111, 117, 112]⟩ s; let s ← needM toks ⟨#[40]⟩ s; let s ← P toks n .value s; let s ← needM toks ⟨#[41]⟩ s; closeM s
    | .nameOrCall => do
      let s1 ← needM toks kName s
      if kq toks s1 [40] then do
        let s1 ← aroundM s.nodes.length ⟨#[99, 97, 108, 108]⟩ s1; let s1 ← takeM toks s1
        let s1 ← if kq toks s1 [41] then some s1 else P toks n .values s1
        let s1 ← needM toks ⟨#[41]⟩ s1; closeM s1
      else some s1
    | .values => do let s ← P toks n .value s; P toks n .valuesL s
    | .valuesL => if kq toks s [44] then do let s ← takeM toks s; let s ← P toks n .value s; P toks n .valuesL s else some s

/-- The number of the method (a loop has none). -/
def G.num : G → Nat
  | .program => 19 | .function => 36 | .params => 62 | .param => 80 | .statement => 81 | .block => 63
  | .emptyS => 84 | .ifS => 85 | .whileS => 86 | .returnS => 87 | .localS => 88 | .expr => 89 | .condition => 92
  | .value => 93 | .set => 99 | .or => 100 | .and => 106 | .rel => 110 | .sum => 111 | .prod => 113 | .single => 115
  | .neg => 117 | .group => 118 | .nameOrCall => 119 | .values => 120
  | _ => 0
def G.meth : G → Bool
  | .funcs | .paramsL | .stmts | .orL | .andL | .sumL | .prodL | .valuesL => false
  | _ => true

def Does (f : Nat) (b : Nat) (tv : Value) (toks : List Tok) (w : World) (st' : PSt) : Prop :=
  Calls Tryz.prog f #[.pointer (some ⟨b, 0, none⟩)] w fun e w' => e = .returned (.tuple #[]) ∧ PS b tv toks w' st' ∧ Below b w w'
/-- The contracts of all methods at a bound. -/
def IH (b : Nat) (tv : Value) (toks : List Tok) (n : Nat) : Prop :=
  ∀ g st st' w, g.meth = true → PS b tv toks w st → P toks n g st = some st' → Does g.num b tv toks w st'

section
variable {b : Nat} {tv : Value} {toks : List Tok} {w : World} {st st' : PSt}
theorem openM_any {k : ByteArray} (h : PS b tv toks w st) (he : openM k st = some st') :
    Calls Tryz.prog 34 #[.pointer (some ⟨b, 0, none⟩), .string k] w fun e w' => e = .returned (.tuple #[]) ∧ PS b tv toks w' st' ∧ Below b w w' := by
  unfold openM at he
  by_cases hs : szB st = true
  · rw [if_pos hs] at he; cases he; exact open_any b tv toks w st k h ((szB_iff st).1 hs)
  · rw [if_neg hs] at he; cases he
theorem needM_any {k : ByteArray} (h : PS b tv toks w st) (he : needM toks k st = some st') :
    Calls Tryz.prog 37 #[.pointer (some ⟨b, 0, none⟩), .string k] w fun e w' => e = .returned (.tuple #[]) ∧ PS b tv toks w' st' ∧ Below b w w' := by
  unfold needM at he
  by_cases hs : szB st = true
  · rw [if_pos hs] at he; cases he; exact need_any b tv toks w st k h ((szB_iff st).1 hs)
  · rw [if_neg hs] at he; cases he
theorem takeM_any (h : PS b tv toks w st) (he : takeM toks st = some st') :
    Calls Tryz.prog 64 #[.pointer (some ⟨b, 0, none⟩)] w fun e w' => e = .returned (.tuple #[]) ∧ PS b tv toks w' st' ∧ Below b w w' := by
  unfold takeM at he
  by_cases hs : szB st = true
  · rw [if_pos hs] at he; cases he; exact take_any b tv toks w st h ((szB_iff st).1 hs)
  · rw [if_neg hs] at he; cases he
theorem closeM_any (h : PS b tv toks w st) (he : closeM st = some st') :
    Calls Tryz.prog 38 #[.pointer (some ⟨b, 0, none⟩)] w fun e w' => e = .returned (.tuple #[]) ∧ PS b tv toks w' st' ∧ Below b w w' := by
  unfold closeM at he
  by_cases hs : szB st = true
  · rw [if_pos hs] at he; cases he; exact close_any b tv toks w st h ((szB_iff st).1 hs)
  · rw [if_neg hs] at he; cases he
theorem aroundM_any {i : Nat} {k : ByteArray} (h : PS b tv toks w st) (he : aroundM i k st = some st') :
    Calls Tryz.prog 107 #[.pointer (some ⟨b, 0, none⟩), .int .i64 i, .string k] w fun e w' => e = .returned (.tuple #[]) ∧ PS b tv toks w' st' ∧ Below b w w' := by
  unfold aroundM at he
  by_cases hs : szB st = true ∧ i ≤ st.nodes.length
  · rw [if_pos hs] at he; cases he
    have := openAround_any b tv toks w st i k h (by omega) (by omega) ((szB_iff st).1 hs.1)
    rw [Int.toNat_natCast] at this
    exact this
  · rw [if_neg hs] at he; cases he
theorem kq_any (h : PS b tv toks w st) :
    Calls Tryz.prog 35 #[.pointer (some ⟨b, 0, none⟩)] w fun e w' => e = .returned (.string (kindL toks st)) ∧ w' = w := kind_any b tv toks w st h
end

set_option maxHeartbeats 400000 in
theorem isRelSign_any (k : ByteArray) (w : World) :
    Calls Tryz.prog 112 #[.string k] w fun e w' => e = .returned (.bool (relB k.toList)) ∧ w' = w := by
  cases h1 : (k.toList == [61, 61]) <;> cases h2 : (k.toList == [33, 61]) <;> cases h3 : (k.toList == [60])
  all_goals
    have HF : Hid (relB k.toList = (k.toList == [61, 61] || k.toList == [33, 61] || k.toList == [60] || k.toList == [62])) := rfl
    rw [h1, h2, h3] at HF
    go_enter Tryz.func112, Tryz.ntmps112
    go_wp2_with fail
    go_ret
    exact ⟨ret_bool (by rw [unhide HF]; rfl), rfl⟩
set_option maxHeartbeats 400000 in
theorem isSumSign_any (k : ByteArray) (w : World) :
    Calls Tryz.prog 114 #[.string k] w fun e w' => e = .returned (.bool (sumB k.toList)) ∧ w' = w := by
  cases h1 : (k.toList == [43])
  all_goals
    have HF : Hid (sumB k.toList = (k.toList == [43] || k.toList == [45])) := rfl
    rw [h1] at HF
    go_enter Tryz.func114, Tryz.ntmps114
    go_wp2_with fail
    go_ret
    exact ⟨ret_bool (by rw [unhide HF]; rfl), rfl⟩
set_option maxHeartbeats 400000 in
theorem isProdSign_any (k : ByteArray) (w : World) :
    Calls Tryz.prog 116 #[.string k] w fun e w' => e = .returned (.bool (prodB k.toList)) ∧ w' = w := by
  cases h1 : (k.toList == [42])
  all_goals
    have HF : Hid (prodB k.toList = (k.toList == [42] || k.toList == [47])) := rfl
    rw [h1] at HF
    go_enter Tryz.func116, Tryz.ntmps116
    go_wp2_with fail
    go_ret
    exact ⟨ret_bool (by rw [unhide HF]; rfl), rfl⟩

end Go.Proofs.YtdaneedflpfeaabGreatDoor

namespace Go.Proofs.YtdaneedflpfeaabGreatDoor
set_option maxRecDepth 100000
open Go.RowKit

theorem slice_form {w : World} {base e size : Nat} {v : Value} {n : Nat} {xs : List Value} (h : w.ownsRow base e size v n xs) : ∃ a cap, v = .slice a n cap := by
  rcases h.2 with ⟨rfl, rfl⟩ | ⟨g, cap, cur, rfl, _⟩
  · exact ⟨_, _, rfl⟩
  · exact ⟨_, _, rfl⟩

theorem kind_around {toks : List Tok} {i : Nat} {k : ByteArray} {s s' : PSt} (h : aroundM i k s = some s') : kindL toks s' = kindL toks s := by
  unfold aroundM at h
  split at h
  · cases h; rfl
  · cases h

end Go.Proofs.YtdaneedflpfeaabGreatDoor

namespace Go.Proofs.YtdaneedflpfeaabGreatDoor
set_option maxRecDepth 100000
open Go.RowKit

/-- What a rule asks of the next token (or two). -/
inductive Cond where
  | is (l : List UInt8) | go (l : List UInt8) | rel | sum | prod | set | sign
/-- The grammar's rules. -/
inductive Gr where
  | need (k : ByteArray) | take | call (g : G) | seq (a b : Gr) | ite (c : Cond) (a b : Gr) | skip | node (k : ByteArray) (a : Gr) | wrap (k : ByteArray) (a : Gr) (c : Cond) (b : Gr)

def body : G → Gr
  | .program => .node ⟨#[112, 114, 111, 103, 114, 97, 109]⟩ (.seq (.call .funcs) (.need kEnd))
  | .funcs => .ite (.go [101, 110, 100]) (.seq (.call .function) (.call .funcs)) .skip
  | .function => .node ⟨#[102, 117, 110, 99, 116, 105, 111, 110]⟩ (.seq (.need kType) (.seq (.need kName) (.seq (.need ⟨#[40]⟩) (.seq (.ite (.is [41]) .skip (.call .params)) (.seq (.need ⟨#[41]⟩) (.call .block))))))
  | .params => .seq (.call .param) (.call .paramsL)
  | .paramsL => .ite (.is [44]) (.seq .take (.seq (.call .param) (.call .paramsL))) .skip
  | .param => .node ⟨#[112, 97, 114, 97, 109]⟩ (.seq (.need kType) (.need kName))
  | .statement => .ite (.is [123]) (.call .block) (.ite (.is [59]) (.call .emptyS) (.ite (.is [105, 102]) (.call .ifS) (.ite (.is [119, 104, 105, 108, 101]) (.call .whileS) (.ite (.is [114, 101, 116, 117, 114, 110]) (.call .returnS) (.ite (.is [116, 121, 112, 101]) (.call .localS) (.call .expr))))))
  | .block => .node ⟨#[98, 108, 111, 99, 107]⟩ (.seq (.need ⟨#[123]⟩) (.seq (.call .stmts) (.need ⟨#[125]⟩)))
  | .stmts => .ite (.go [125]) (.seq (.call .statement) (.call .stmts)) .skip
  | .emptyS => .node ⟨#[101, 109, 112, 116, 121]⟩ (.need ⟨#[59]⟩)
  | .ifS => .node ⟨#[105, 102]⟩ (.seq (.need ⟨#[105, 102]⟩) (.seq (.call .condition) (.seq (.call .statement) (.ite (.is [101, 108, 115, 101]) (.seq .take (.call .statement)) .skip))))
  | .whileS => .node ⟨#[119, 104, 105, 108, 101]⟩ (.seq (.need ⟨#[119, 104, 105, 108, 101]⟩) (.seq (.call .condition) (.call .statement)))
  | .returnS => .node ⟨#[114, 101, 116, 117, 114, 110]⟩ (.seq (.need ⟨#[114, 101, 116, 117, 114, 110]⟩) (.seq (.ite (.is [59]) .skip (.call .value)) (.need ⟨#[59]⟩)))
  | .localS => .node ⟨#[108, 111, 99, 97, 108]⟩ (.seq (.need kType) (.seq (.need kName) (.seq (.ite (.is [61]) (.seq .take (.call .value)) .skip) (.need ⟨#[59]⟩))))
  | .expr => .node ⟨#[101, 120, 112, 114]⟩ (.seq (.call .value) (.need ⟨#[59]⟩))
  | .condition => .seq (.need ⟨#[40]⟩) (.seq (.call .value) (.need ⟨#[41]⟩))
  | .value => .ite .set (.call .set) (.call .or)
  | .set => .node ⟨#[115, 101, 116]⟩ (.seq (.need kName) (.seq (.need ⟨#[61]⟩) (.call .value)))
  | .or => .wrap ⟨#[111, 114]⟩ (.call .and) (.is [124, 124]) (.call .orL)
  | .orL => .ite (.is [124, 124]) (.seq .take (.seq (.call .and) (.call .orL))) .skip
  | .and => .wrap ⟨#[97, 110, 100]⟩ (.call .rel) (.is [38, 38]) (.call .andL)
  | .andL => .ite (.is [38, 38]) (.seq .take (.seq (.call .rel) (.call .andL))) .skip
  | .rel => .wrap ⟨#[114, 101, 108]⟩ (.call .sum) .rel (.seq .take (.call .sum))
  | .sum => .wrap ⟨#[115, 117, 109]⟩ (.call .prod) .sum (.call .sumL)
  | .sumL => .ite .sum (.seq .take (.seq (.call .prod) (.call .sumL))) .skip
  | .prod => .wrap ⟨#[112, 114, 111, 100]⟩ (.call .single) .prod (.call .prodL)
  | .prodL => .ite .prod (.seq .take (.seq (.call .single) (.call .prodL))) .skip
  | .single => .ite .sign (.call .neg) (.ite (.is [40]) (.call .group) (.ite (.is [110, 97, 109, 101]) (.call .nameOrCall) (.need kNumber)))
  | .neg => .node ⟨#[110, 101, 103]⟩ (.seq .take (.call .single))
  | .group => .node ⟨#[103, 114, 111, 117, 112]⟩ (.seq (.need ⟨#[40]⟩) (.seq (.call .value) (.need ⟨#[41]⟩)))
  | .nameOrCall => .wrap ⟨#[99, 97, 108, 108]⟩ (.need kName) (.is [40]) (.seq .take (.seq (.ite (.is [41]) .skip (.call .values)) (.need ⟨#[41]⟩)))
  | .values => .seq (.call .value) (.call .valuesL)
  | .valuesL => .ite (.is [44]) (.seq .take (.seq (.call .value) (.call .valuesL))) .skip

def condP (toks : List Tok) (s : PSt) : Cond → Bool
  | .is l => kq toks s l
  | .go l => s.failed == false && !kq toks s l
  | .rel => relB (kindL toks s).toList
  | .sum => sumB (kindL toks s).toList
  | .prod => prodB (kindL toks s).toList
  | .set => kq toks s [110, 97, 109, 101] && (kindAtL toks s (s.at_ + 1)).toList == [61]
  | .sign => kq toks s [45] || kq toks s [33]

def PI (toks : List Tok) (n : Nat) : Gr → PSt → Option PSt
  | .need k, s => needM toks k s
  | .take, s => takeM toks s
  | .call g, s => P toks n g s
  | .seq a b, s => (PI toks n a s).bind (PI toks n b)
  | .ite c a b, s => if condP toks s c then PI toks n a s else PI toks n b s
  | .skip, s => some s
  | .node k a, s => (openM k s).bind fun s => (PI toks n a s).bind closeM
  | .wrap k a c b, s => (PI toks n a s).bind fun s1 => if condP toks s1 c then (aroundM s.nodes.length k s1).bind fun s2 => (PI toks n b s2).bind closeM else some s1

theorem bind_fun {a : Option PSt} {f g : PSt → Option PSt} (h : ∀ s, f s = g s) : a.bind f = a.bind g := by rw [show f = g from funext h]

theorem P_body (toks : List Tok) (n : Nat) (g : G) (s : PSt) : P toks (n + 1) g s = PI toks n (body g) s := by
  cases g
  all_goals
    rw [P]
    simp only [body, PI, Option.bind_eq_bind, Option.bind_assoc, Option.bind_some]
    try rfl
  · refine bind_fun fun s => bind_fun fun s => bind_fun fun s => bind_fun fun s => ?_
    show _ = Option.bind (if kq toks s [41] = true then _ else _) _
    by_cases h : kq toks s [41] = true
    · rw [if_pos h, if_pos h]; rfl
    · rw [if_neg h, if_neg h]; try rfl
  · refine bind_fun fun s => bind_fun fun s => bind_fun fun s => bind_fun fun s => ?_
    show _ = Option.bind (if kq toks s [101, 108, 115, 101] = true then _ else _) _
    by_cases h : kq toks s [101, 108, 115, 101] = true
    · rw [if_pos h, if_pos h]; rw [Option.bind_assoc]
    · rw [if_neg h, if_neg h]; try rfl
  · refine bind_fun fun s => bind_fun fun s => ?_
    show _ = Option.bind (if kq toks s [59] = true then _ else _) _
    by_cases h : kq toks s [59] = true
    · rw [if_pos h, if_pos h]; rfl
    · rw [if_neg h, if_neg h]; try rfl
  · refine bind_fun fun s => bind_fun fun s => bind_fun fun s => ?_
    show _ = Option.bind (if kq toks s [61] = true then _ else _) _
    by_cases h : kq toks s [61] = true
    · rw [if_pos h, if_pos h]; rw [Option.bind_assoc]
    · rw [if_neg h, if_neg h]; try rfl
  · refine bind_fun fun s => ?_
    show _ = (if kq toks s [40] = true then _ else _)
    by_cases h : kq toks s [40] = true
    · rw [if_pos h, if_pos h]
      refine bind_fun fun s => bind_fun fun s => ?_
      show _ = Option.bind (if kq toks s [41] = true then _ else _) _
      by_cases h : kq toks s [41] = true
      · rw [if_pos h, if_pos h]; rfl
      · rw [if_neg h, if_neg h]; try rfl
    · rw [if_neg h, if_neg h]

end Go.Proofs.YtdaneedflpfeaabGreatDoor

namespace Go.Proofs.YtdaneedflpfeaabGreatDoor
set_option maxRecDepth 100000
open Go.RowKit

/-- The kind of a token (none behind the last). -/
def kindA (toks : List Tok) (k : Nat) : ByteArray := match toks[k]? with | none => kNone | some t => t.kind
def condK (l : List UInt8) (l2 : List UInt8) : Cond → Bool
  | .is m => l == m
  | .go m => !(l == m)
  | .rel => relB l
  | .sum => sumB l
  | .prod => prodB l
  | .set => l == [110, 97, 109, 101] && l2 == [61]
  | .sign => l == [45] || l == [33]
def condA (toks : List Tok) (k : Nat) (c : Cond) : Bool := condK (kindA toks k).data.toList (kindA toks (k + 1)).data.toList c
def lNone : List UInt8 := [110, 111, 110, 101]
theorem kNone_list : kNone.toList = lNone := by rw [Go.ByteArray.toList_eq]; rfl
/-- In a parser that has failed. -/
def condF : Cond → Bool
  | .go _ => false
  | c => condK lNone lNone c

theorem kindL_ok {toks : List Tok} {s : PSt} (h : s.failed = false) : kindL toks s = kindA toks s.at_ := by simp only [kindL, kindAtL, kindA, h]; rfl
theorem kindAtL_ok {toks : List Tok} {s : PSt} {i : Nat} (h : s.failed = false) : kindAtL toks s i = kindA toks i := by simp only [kindAtL, kindA, h]; rfl
theorem kindAtL_no {toks : List Tok} {s : PSt} {i : Nat} (h : s.failed = true) : kindAtL toks s i = kNone := by simp [kindAtL, h]
theorem condP_ok {toks : List Tok} {s : PSt} (h : s.failed = false) (c : Cond) : condP toks s c = condA toks s.at_ c := by
  cases c <;> simp [condP, condA, condK, kq, kindL_ok h, kindAtL_ok h, h, Go.ByteArray.toList_eq]
theorem condP_no {toks : List Tok} {s : PSt} (h : s.failed = true) (c : Cond) : condP toks s c = condF c := by
  cases c <;> simp [condP, condF, condK, kq, kindL, kindAtL_no h, h, kNone_list]

/-- A row: a node's depth below where the rule began, whether it is inner, its text. -/
structure Rw where
  deep : Nat
  inner : Bool
  text : ByteArray
def Rw.up (r : Rw) : Rw := { r with deep := r.deep + 1 }
def nodeR (k : ByteArray) (l : List Rw) : List Rw := ⟨0, true, k⟩ :: l.map Rw.up
inductive Res where
  | ok (l : List Rw) (k : Nat)
  | fail (k : Nat)

/-- What a rule makes of the tokens from a place on. -/
def Ab (toks : List Tok) (f : G → Nat → Option Res) : Gr → Nat → Option Res
  | .need kd, k => match toks[k]? with
    | some t => if t.kind = kd then some (.ok [⟨0, false, t.text⟩] (k + 1)) else some (.fail k)
    | none => some (.fail k)
  | .take, k => match toks[k]? with
    | some t => some (.ok [⟨0, false, t.text⟩] (k + 1))
    | none => none
  | .call g, k => f g k
  | .seq a b, k => match Ab toks f a k with
    | none => none
    | some (.fail j) => some (.fail j)
    | some (.ok l j) => match Ab toks f b j with
      | none => none
      | some (.fail i) => some (.fail i)
      | some (.ok m i) => some (.ok (l ++ m) i)
  | .ite c a b, k => if condA toks k c then Ab toks f a k else Ab toks f b k
  | .skip, k => some (.ok [] k)
  | .node kd a, k => match Ab toks f a k with
    | none => none
    | some (.fail j) => some (.fail j)
    | some (.ok l j) => some (.ok (nodeR kd l) j)
  | .wrap kd a c b, k => match Ab toks f a k with
    | none => none
    | some (.fail j) => some (.fail j)
    | some (.ok l j) => if condA toks j c then match Ab toks f b j with
        | none => none
        | some (.fail i) => some (.fail i)
        | some (.ok m i) => some (.ok (nodeR kd (l ++ m)) i)
      else some (.ok l j)
def Ag (toks : List Tok) : Nat → G → Nat → Option Res
  | 0, _, _ => none
  | n + 1, g, k => Ab toks (Ag toks n) (body g) k

/-! ## What fails goes on, and changes little -/
def costG : G → Nat
  | .program => 2 | .function => 8 | .params => 2 | .param => 2 | .statement => 2 | .block => 2 | .emptyS => 2 | .ifS => 4 | .whileS => 4 | .returnS => 2 | .localS => 2 | .expr => 2
  | .set => 2 | .neg => 2 | .group => 2
  | _ => 0
def rankF : G → Nat
  | .single => 1 | .prod => 2 | .sum => 3 | .rel => 4 | .and => 5 | .or => 6 | .value => 7 | .expr => 8 | .condition => 8 | .statement => 9 | .param => 1 | .paramsL => 1 | .params => 2
  | .funcs => 1 | .stmts => 1 | .block => 2 | .function => 3 | .emptyS => 1 | .ifS => 10 | .whileS => 10 | .returnS => 8 | .localS => 1 | .set => 8 | .orL => 1 | .andL => 1 | .sumL => 1 | .prodL => 1
  | .neg => 2 | .group => 8 | .nameOrCall => 1 | .values => 8 | .valuesL => 1 | .program => 2
def costF : Gr → Nat
  | .call g => costG g
  | .seq a b => costF a + costF b
  | .ite c a b => if condF c then costF a else costF b
  | .node _ a => costF a + 2
  | .wrap _ a c b => if condF c then costF a + costF b + 2 else costF a
  | _ => 0
def leadF : Gr → Nat
  | .call g => rankF g
  | .seq a b => max (leadF a) (leadF b)
  | .ite c a b => if condF c then leadF a else leadF b
  | .node _ a => leadF a
  | .wrap _ a c b => if condF c then max (leadF a) (leadF b) else leadF a
  | _ => 0
/-- No rule wraps, nor asks for a token that is none, in a parser that has failed. -/
def fineF : Gr → Bool
  | .need k => lNone != k.data.toList
  | .seq a b => fineF a && fineF b
  | .ite _ a b => fineF a && fineF b
  | .node _ a => fineF a
  | .wrap _ a c b => !condF c && fineF a && fineF b
  | _ => true
theorem tables (g : G) : costF (body g) ≤ costG g ∧ leadF (body g) < rankF g ∧ fineF (body g) = true ∧ costG g ≤ 8 ∧ rankF g ≤ 10 := by cases g <;> decide

end Go.Proofs.YtdaneedflpfeaabGreatDoor

namespace Go.Proofs.YtdaneedflpfeaabGreatDoor
set_option maxRecDepth 100000
open Go.RowKit

theorem needL_no {toks : List Tok} {st : PSt} {k : ByteArray} (h : st.failed = true) (hk : lNone ≠ k.data.toList) : needL toks k st = st := by
  unfold needL
  rw [if_neg]
  · simp [failL, ← h]
  · intro he
    rw [kindL, kindAtL_no h] at he
    exact hk (by rw [← he]; rfl)
theorem takeL_no {toks : List Tok} {st : PSt} (h : st.failed = true) : takeL toks st = st := by simp [takeL, h]

/-- What a rule does to a parser that has failed: little. -/
def Idle (st st' : PSt) (N : Nat) : Prop := st'.failed = true ∧ st'.at_ = st.at_ ∧ sz st' N

theorem junkB (toks : List Tok) (m : Nat) (ih : ∀ g st N, rankF g ≤ m → st.failed = true → sz st N → N + costG g ≤ 999999 → ∃ st', P toks m g st = some st' ∧ Idle st st' (N + costG g)) :
    ∀ b st N, leadF b ≤ m → fineF b = true → st.failed = true → sz st N → N + costF b ≤ 999999 → ∃ st', PI toks m b st = some st' ∧ Idle st st' (N + costF b) := by
  intro b
  induction b with
  | need k =>
    intro st N _ hf h hs hN
    have hk : lNone ≠ k.data.toList := by simpa [fineF] using hf
    exact ⟨st, by simp [PI, needM, needL_no h hk, (szB_iff _).2 (hs.mono (show N ≤ 999999 by omega))], h, rfl, hs⟩
  | take =>
    intro st N _ _ h hs hN
    exact ⟨st, by simp [PI, takeM, takeL_no h, (szB_iff _).2 (hs.mono (show N ≤ 999999 by omega))], h, rfl, hs⟩
  | call g =>
    intro st N hl _ h hs hN
    exact ih g st N hl h hs hN
  | seq a b iha ihb =>
    intro st N hl hf h hs hN
    simp only [fineF, Bool.and_eq_true] at hf
    simp only [leadF] at hl
    simp only [costF] at hN ⊢
    obtain ⟨s1, e1, f1, a1, z1⟩ := iha st N (by omega) hf.1 h hs (by omega)
    obtain ⟨s2, e2, f2, a2, z2⟩ := ihb s1 (N + costF a) (by omega) hf.2 f1 z1 (by omega)
    exact ⟨s2, by simp [PI, e1, e2], f2, a2.trans a1, by rw [← Nat.add_assoc]; exact z2⟩
  | ite c a b iha ihb =>
    intro st N hl hf h hs hN
    simp only [fineF, Bool.and_eq_true] at hf
    simp only [leadF] at hl
    simp only [costF] at hN ⊢
    cases hc : condF c with
    | true =>
      simp only [hc, if_true] at hl hN ⊢
      obtain ⟨s1, e1, r⟩ := iha st N hl hf.1 h hs hN
      exact ⟨s1, by simp [PI, condP_no h, hc, e1], r⟩
    | false =>
      simp only [hc, Bool.false_eq_true, if_false] at hl hN ⊢
      obtain ⟨s1, e1, r⟩ := ihb st N hl hf.2 h hs hN
      exact ⟨s1, by simp [PI, condP_no h, hc, e1], r⟩
  | skip =>
    intro st N _ _ h hs _
    exact ⟨st, rfl, h, rfl, hs⟩
  | node k a iha =>
    intro st N hl hf h hs hN
    simp only [costF] at hN ⊢
    obtain ⟨s1, e1, f1, a1, z1⟩ := iha (openL k st) (N + 1) hl hf h (sz_open k hs) (by omega)
    refine ⟨closeL s1, ?_, f1, a1, ?_⟩
    · simp [PI, openM, closeM, (szB_iff _).2 (hs.mono (show N ≤ 999999 by omega)), e1, (szB_iff _).2 (z1.mono (show N + 1 + costF a ≤ 999999 by omega))]
    · exact (sz_close z1).mono (by omega)
  | wrap k a c b iha ihb =>
    intro st N hl hf h hs hN
    simp only [fineF, Bool.and_eq_true, Bool.not_eq_true'] at hf
    simp only [leadF, hf.1.1, Bool.false_eq_true, if_false] at hl
    simp only [costF, hf.1.1, Bool.false_eq_true, if_false] at hN ⊢
    obtain ⟨s1, e1, f1, r⟩ := iha st N hl hf.1.2 h hs hN
    exact ⟨s1, by simp [PI, e1, condP_no f1, hf.1.1], f1, r⟩

theorem junkG (toks : List Tok) (m : Nat) : ∀ g st N, rankF g ≤ m → st.failed = true → sz st N → N + costG g ≤ 999999 → ∃ st', P toks m g st = some st' ∧ Idle st st' (N + costG g) := by
  induction m with
  | zero => intro g st N hr; have := (tables g).2.1; omega
  | succ m ih =>
    intro g st N hr h hs hN
    have ht := tables g
    obtain ⟨s1, e1, f1, a1, z1⟩ := junkB toks m ih (body g) st N (by omega) ht.2.2.1 h hs (by omega)
    exact ⟨s1, by rw [P_body]; exact e1, f1, a1, z1.mono (by omega)⟩

end Go.Proofs.YtdaneedflpfeaabGreatDoor

namespace Go.Proofs.YtdaneedflpfeaabGreatDoor
set_option maxRecDepth 100000
open Go.RowKit

def minG : G → Nat
  | .funcs | .paramsL | .stmts | .orL | .andL | .sumL | .prodL | .valuesL => 0
  | _ => 1
def minC : Gr → Nat
  | .need _ => 1 | .take => 1 | .call g => minG g | .seq a b => minC a + minC b | .ite _ a b => min (minC a) (minC b) | .skip => 0 | .node _ a => minC a | .wrap _ a _ _ => minC a
def slackG : G → Int
  | .funcs | .paramsL | .stmts | .orL | .andL | .sumL | .prodL | .valuesL => 0
  | .single => 9 | .neg => 9 | .group => 9 | .prod => 8 | .sum => 7 | .rel => 7 | .and => 6 | .nameOrCall => 9 | _ => 5
def slackB : Gr → Int
  | .need _ => 9 | .take => 9 | .call g => slackG g | .seq a b => slackB a + slackB b | .ite _ a b => min (slackB a) (slackB b) | .skip => 0 | .node _ a => slackB a - 1
  | .wrap _ a _ b => min (slackB a) (slackB a + slackB b - 1)
theorem tables2 (g : G) : minG g ≤ minC (body g) ∧ slackG g ≤ slackB (body g) ∧ 0 ≤ slackG g := by cases g <;> decide

/-- What is known of the rows that a rule makes. -/
structure Fact (T k : Nat) (l : List Rw) (j : Nat) (mn : Nat) (sl : Int) : Prop where
  ge : k + mn ≤ j
  le : k ≤ T → j ≤ T
  few : (l.length : Int) + sl ≤ 10 * ((j : Int) - k)
  deep : ∀ x ∈ l, x.deep < l.length

theorem Fact.seq {T k j i mn mn2 : Nat} {sl sl2 : Int} {l m : List Rw} (h : Fact T k l j mn sl) (h2 : Fact T j m i mn2 sl2) : Fact T k (l ++ m) i (mn + mn2) (sl + sl2) := by
  refine ⟨by have := h.ge; have := h2.ge; omega, fun hk => h2.le (h.le hk), by have := h.few; have := h2.few; rw [List.length_append]; omega, fun x hx => ?_⟩
  rw [List.length_append]
  rcases List.mem_append.1 hx with hx | hx
  · have := h.deep x hx; omega
  · have := h2.deep x hx; omega
theorem Fact.node {T k j mn : Nat} {sl : Int} {l : List Rw} (h : Fact T k l j mn sl) (kd : ByteArray) : Fact T k (nodeR kd l) j mn (sl - 1) := by
  refine ⟨h.ge, h.le, by have := h.few; simp only [nodeR, List.length_cons, List.length_map]; omega, fun x hx => ?_⟩
  simp only [nodeR, List.length_cons, List.length_map]
  rcases List.mem_cons.1 hx with rfl | hx
  · exact Nat.succ_pos _
  · obtain ⟨y, hy, rfl⟩ := List.mem_map.1 hx
    have := h.deep y hy
    show y.deep + 1 < _; omega
theorem Fact.weak {T k j mn mn2 : Nat} {sl sl2 : Int} {l : List Rw} (h : Fact T k l j mn sl) (h1 : mn2 ≤ mn) (h2 : sl2 ≤ sl) : Fact T k l j mn2 sl2 :=
  ⟨by have := h.ge; omega, h.le, by have := h.few; omega, h.deep⟩
theorem Fact.one {toks : List Tok} {k : Nat} {t : Tok} (h : toks[k]? = some t) (x : ByteArray) : Fact toks.length k [⟨0, false, x⟩] (k + 1) 1 9 := by
  have hlt : k < toks.length := by
    rcases Nat.lt_or_ge k toks.length with g | g
    · exact g
    · rw [List.getElem?_eq_none g] at h; cases h
  exact ⟨Nat.le_refl _, fun _ => hlt, by simp; omega, fun x hx => by simp at hx; subst hx; simp⟩

theorem rowsB (toks : List Tok) (f : G → Nat → Option Res) (ih : ∀ g k l j, f g k = some (.ok l j) → Fact toks.length k l j (minG g) (slackG g)) :
    ∀ b k l j, Ab toks f b k = some (.ok l j) → Fact toks.length k l j (minC b) (slackB b) := by
  intro b
  induction b with
  | need kd =>
    intro k l j h
    simp only [Ab] at h
    split at h
    · rename_i t ht
      split at h
      · cases h; exact Fact.one ht t.text
      · cases h
    · cases h
  | take =>
    intro k l j h
    simp only [Ab] at h
    split at h
    · rename_i t ht; cases h; exact Fact.one ht t.text
    · cases h
  | call g => intro k l j h; exact ih g k l j h
  | seq a b iha ihb =>
    intro k l j h
    simp only [Ab] at h
    split at h
    · cases h
    · cases h
    · rename_i l1 j1 h1
      split at h
      · cases h
      · cases h
      · rename_i l2 j2 h2
        cases h
        exact (iha _ _ _ h1).seq (ihb _ _ _ h2)
  | ite c a b iha ihb =>
    intro k l j h
    simp only [Ab] at h
    split at h
    · exact (iha _ _ _ h).weak (Nat.min_le_left _ _) (Int.min_le_left _ _)
    · exact (ihb _ _ _ h).weak (Nat.min_le_right _ _) (Int.min_le_right _ _)
  | skip => intro k l j h; cases h; exact ⟨Nat.le_refl _, fun h => h, by simp [slackB], fun x hx => by cases hx⟩
  | node kd a iha =>
    intro k l j h
    simp only [Ab] at h
    split at h
    · cases h
    · cases h
    · rename_i l1 j1 h1; cases h; exact (iha _ _ _ h1).node kd
  | wrap kd a c b iha ihb =>
    intro k l j h
    simp only [Ab] at h
    split at h
    · cases h
    · cases h
    · rename_i l1 j1 h1
      split at h
      · split at h
        · cases h
        · cases h
        · rename_i l2 j2 h2
          cases h
          exact (((iha _ _ _ h1).seq (ihb _ _ _ h2)).node kd).weak (by simp only [minC]; omega) (Int.min_le_right _ _)
      · cases h
        exact (iha _ _ _ h1).weak (Nat.le_refl _) (Int.min_le_left _ _)

theorem rowsG (toks : List Tok) (n : Nat) : ∀ g k l j, Ag toks n g k = some (.ok l j) → Fact toks.length k l j (minG g) (slackG g) := by
  induction n with
  | zero => intro g k l j h; cases h
  | succ n ih =>
    intro g k l j h
    exact (rowsB toks _ ih (body g) k l j h).weak (tables2 g).1 (tables2 g).2.1

end Go.Proofs.YtdaneedflpfeaabGreatDoor
