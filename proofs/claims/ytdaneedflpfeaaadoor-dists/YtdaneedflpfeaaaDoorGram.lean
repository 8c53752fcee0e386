import Derived.Test.YtdaneedflpfeaaaDoorTwin2
namespace Go.Proofs.YtdaneedflpfeaaaDoor
set_option maxRecDepth 100000
open Go.RowKit

/-- What a rule asks of the next token (or two). -/
inductive Cond where
  | is (l : List UInt8) | go (l : List UInt8) | rel | sum | prod | set | sign
/-- The grammar's rules. -/
inductive Gr where
  | need (k : ByteArray) | take | call (g : G) | seq (a b : Gr) | ite (c : Cond) (a b : Gr) | skip | node (k : ByteArray) (a : Gr) | wrap (k : ByteArray) (a : Gr) (c : Cond) (b : Gr)

def body : G → Gr
  | .program => .node ⟨#[112, 114, 111, 103, 114, 97, 109]⟩ (.seq (.call .funcs) (.need kEnd))
  | .funcs => .ite (.go [101, 110, 100]) (.seq (.call .function) (.call .funcs)) .skip
  | .function => .node ⟨#[102, 117, 110, 99, 116, 105, 111, 110]⟩ (.seq (.need kType) (.seq (.need kName) (.seq (.need ⟨#[40]⟩) (.seq (.ite (.is [41]) .skip (.call .params)) (.seq (.need ⟨#[41]⟩) (.call .block))))))
  | .params => .seq (.call .param) (.call .paramsL)
  | .paramsL => .ite (.is [44]) (.seq .take (.seq (.call .param) (.call .paramsL))) .skip
  | .param => .node ⟨#[112, 97, 114, 97, 109]⟩ (.seq (.need kType) (.need kName))
  | .statement => .ite (.is [123]) (.call .block) (.ite (.is [59]) (.call .emptyS) (.ite (.is [105, 102]) (.call .ifS) (.ite (.is [119, 104, 105, 108, 101]) (.call .whileS) (.ite (.is [114, 101, 116, 117, 114, 110]) (.call .returnS) (.ite (.is [116, 121, 112, 101]) (.call .localS) (.call .expr))))))
  | .block => .node ⟨#[98, 108, 111, 99, 107]⟩ (.seq (.need ⟨#[123]⟩) (.seq (.call .stmts) (.need ⟨#[125]⟩)))
  | .stmts => .ite (.go [125]) (.seq (.call .statement) (.call .stmts)) .skip
  | .emptyS => .node ⟨#[101, 109, 112, 116, 121]⟩ (.need ⟨#[59]⟩)
  | .ifS => .node ⟨#[105, 102]⟩ (.seq (.need ⟨#[105, 102]⟩) (.seq (.call .condition) (.seq (.call .statement) (.ite (.is [101, 108, 115, 101]) (.seq .take (.call .statement)) .skip))))
  | .whileS => .node ⟨#[119, 104, 105, 108, 101]⟩ (.seq (.need ⟨#[119, 104, 105, 108, 101]⟩) (.seq (.call .condition) (.call .statement)))
  | .returnS => .node ⟨#[114, 101, 116, 117, 114, 110]⟩ (.seq (.need ⟨#[114, 101, 116, 117, 114, 110]⟩) (.seq (.ite (.is [59]) .skip (.call .value)) (.need ⟨#[59]⟩)))
  | .localS => .node ⟨#[108, 111, 99, 97, 108]⟩ (.seq (.need kType) (.seq (.need kName) (.seq (.ite (.is [61]) (.seq .take (.call .value)) .skip) (.need ⟨#[59]⟩))))
  | .expr => .node ⟨#[101, 120, 112, 114]⟩ (.seq (.call .value) (.need ⟨#[59]⟩))
  | .condition => .seq (.need ⟨#[40]⟩) (.seq (.call .value) (.need ⟨#[41]⟩))
  | .value => .ite .set (.call .set) (.call .or)
  | .set => .node ⟨#[115, 101, 116]⟩ (.seq (.need kName) (.seq (.need ⟨#[61]⟩) (.call .value)))
  | .or => .wrap ⟨#[111, 114]⟩ (.call .and) (.is [124, 124]) (.call .orL)
  | .orL => .ite (.is [124, 124]) (.seq .take (.seq (.call .and) (.call .orL))) .skip
  | .and => .wrap ⟨#[97, 110, 100]⟩ (.call .rel) (.is [38, 38]) (.call .andL)
  | .andL => .ite (.is [38, 38]) (.seq .take (.seq (.call .rel) (.call .andL))) .skip
  | .rel => .wrap ⟨#[114, 101, 108]⟩ (.call .sum) .rel (.seq .take (.call .sum))
  | .sum => .wrap ⟨#[115, 117, 109]⟩ (.call .prod) .sum (.call .sumL)
  | .sumL => .ite .sum (.seq .take (.seq (.call .prod) (.call .sumL))) .skip
  | .prod => .wrap ⟨#[112, 114, 111, 100]⟩ (.call .single) .prod (.call .prodL)
  | .prodL => .ite .prod (.seq .take (.seq (.call .single) (.call .prodL))) .skip
  | .single => .ite .sign (.call .neg) (.ite (.is [40]) (.call .group) (.ite (.is [110, 97, 109, 101]) (.call .nameOrCall) (.need kNumber)))
  | .neg => .node ⟨#[110, 101, 103]⟩ (.seq .take (.call .single))
  | .group => .node ⟨#[103, 114, 111, 117, 112]⟩ (.seq (.need ⟨#[40]⟩) (.seq (.call .value) (.need ⟨#[41]⟩)))
  | .nameOrCall => .wrap ⟨#[99, 97, 108, 108]⟩ (.need kName) (.is [40]) (.seq .take (.seq (.ite (.is [41]) .skip (.call .values)) (.need ⟨#[41]⟩)))
  | .values => .seq (.call .value) (.call .valuesL)
  | .valuesL => .ite (.is [44]) (.seq .take (.seq (.call .value) (.call .valuesL))) .skip

def condP (toks : List Tok) (s : PSt) : Cond → Bool
  | .is l => kq toks s l
  | .go l => s.failed == false && !kq toks s l
  | .rel => relB (kindL toks s).toList
  | .sum => sumB (kindL toks s).toList
  | .prod => prodB (kindL toks s).toList
  | .set => kq toks s [110, 97, 109, 101] && (kindAtL toks s (s.at_ + 1)).toList == [61]
  | .sign => kq toks s [45] || kq toks s [33]

def PI (toks : List Tok) (n : Nat) : Gr → PSt → Option PSt
  | .need k, s => needM toks k s
  | .take, s => takeM toks s
  | .call g, s => P toks n g s
  | .seq a b, s => (PI toks n a s).bind (PI toks n b)
  | .ite c a b, s => if condP toks s c then PI toks n a s else PI toks n b s
  | .skip, s => some s
  | .node k a, s => (openM k s).bind fun s => (PI toks n a s).bind closeM
  | .wrap k a c b, s => (PI toks n a s).bind fun s1 => if condP toks s1 c then (aroundM s.nodes.length k s1).bind fun s2 => (PI toks n b s2).bind closeM else some s1

theorem bind_fun {a : Option PSt} {f g : PSt → Option PSt} (h : ∀ s, f s = g s) : a.bind f = a.bind g := by rw [show f = g from funext h]

theorem P_body (toks : List Tok) (n : Nat) (g : G) (s : PSt) : P toks (n + 1) g s = PI toks n (body g) s := by
  cases g
  all_goals
    rw [P]
    simp only [body, PI, Option.bind_eq_bind, Option.bind_assoc, Option.bind_some]
    try rfl
  · refine bind_fun fun s => bind_fun fun s => bind_fun fun s => bind_fun fun s => ?_
    show _ = Option.bind (if kq toks s [41] = true then _ else _) _
    by_cases h : kq toks s [41] = true
    · rw [if_pos h, if_pos h]; rfl
    · rw [if_neg h, if_neg h]; try rfl
  · refine bind_fun fun s => bind_fun fun s => bind_fun fun s => bind_fun fun s => ?_
    show _ = Option.bind (if kq toks s [101, 108, 115, 101] = true then _ else _) _
    by_cases h : kq toks s [101, 108, 115, 101] = true
    · rw [if_pos h, if_pos h]; rw [Option.bind_assoc]
    · rw [if_neg h, if_neg h]; try rfl
  · refine bind_fun fun s => bind_fun fun s => ?_
    show _ = Option.bind (if kq toks s [59] = true then _ else _) _
    by_cases h : kq toks s [59] = true
    · rw [if_pos h, if_pos h]; rfl
    · rw [if_neg h, if_neg h]; try rfl
  · refine bind_fun fun s => bind_fun fun s => bind_fun fun s => ?_
    show _ = Option.bind (if kq toks s [61] = true then _ else _) _
    by_cases h : kq toks s [61] = true
    · rw [if_pos h, if_pos h]; rw [Option.bind_assoc]
    · rw [if_neg h, if_neg h]; try rfl
  · refine bind_fun fun s => ?_
    show _ = (if kq toks s [40] = true then _ else _)
    by_cases h : kq toks s [40] = true
    · rw [if_pos h, if_pos h]
      refine bind_fun fun s => bind_fun fun s => ?_
      show _ = Option.bind (if kq toks s [41] = true then _ else _) _
      by_cases h : kq toks s [41] = true
      · rw [if_pos h, if_pos h]; rfl
      · rw [if_neg h, if_neg h]; try rfl
    · rw [if_neg h, if_neg h]

end Go.Proofs.YtdaneedflpfeaaaDoor
