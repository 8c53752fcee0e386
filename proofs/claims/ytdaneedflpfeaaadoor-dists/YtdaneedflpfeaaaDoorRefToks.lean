import Derived.Test.YtdaneedflpfeaaaDoorToks
import Derived.Test.YtdaneedflpfeaaaDoorRefScan
namespace Go.Proofs.YtdaneedflpfeaaaDoor
set_option maxRecDepth 100000
open Go.RowKit

structure RTok where
  what : ByteArray
  at_ : Nat
  whole : ByteArray
def rtokCells (t : RTok) : List Value := [.string t.what, .int .i64 t.at_, .string t.whole]
def rtoksCells (l : List RTok) : List Value := l.flatMap rtokCells
theorem rtoksCells_len (l : List RTok) : (rtoksCells l).length = l.length * 3 := by
  induction l with
  | nil => rfl
  | cons t l ih => simp only [rtoksCells, List.flatMap_cons, List.length_append, List.length_cons] at *; rw [ih]; simp [rtokCells]; omega
theorem rtoksCells_snoc (l : List RTok) (t : RTok) : rtoksCells (l ++ [t]) = rtoksCells l ++ rtokCells t := by simp [rtoksCells]
/-- The document's name of a token: itself, for a type too. -/
def whatB (raw : ByteArray) : ByteArray := if isTy raw.toList then raw else kindB raw
def emptyB : ByteArray := ⟨#[]⟩
def rscan (s : ByteArray) (i : Nat) : List RTok :=
  if _h : aheadE s i < tokenE s (aheadE s i) ∧ i ≤ s.size then
    ⟨whatB (s.extract (aheadE s i) (tokenE s (aheadE s i))), aheadE s i, s.extract i (tokenE s (aheadE s i))⟩ :: rscan s (tokenE s (aheadE s i))
  else [if aheadE s i < s.size then ⟨kNone, aheadE s i, emptyB⟩ else ⟨kEnd, aheadE s i, s.extract i (aheadE s i)⟩]
  termination_by s.size - i
  decreasing_by
    have h1 := aheadE_bd s i _h.2
    have : aheadE s i < s.size := by
      by_cases g : aheadE s i < s.size
      · exact g
      · have := tokenE_out (s := s) (p := aheadE s i) (by omega); omega
    omega
theorem rscan_go {s : ByteArray} {i p e : Nat} (hi : i ≤ s.size) (hp : aheadE s i = p) (he : tokenE s p = e) (h : p < e) :
    rscan s i = ⟨whatB (s.extract p e), p, s.extract i e⟩ :: rscan s e := by
  subst hp; subst he
  rw [rscan, dif_pos ⟨h, hi⟩]
theorem rscan_stop {s : ByteArray} {i p : Nat} (hp : aheadE s i = p) (h : ¬ p < tokenE s p) :
    rscan s i = [if p < s.size then ⟨kNone, p, emptyB⟩ else ⟨kEnd, p, s.extract i p⟩] := by
  subst hp
  rw [rscan, dif_neg (fun g => h g.1)]

def kws : List ByteArray := [⟨#[105, 110, 116]⟩, ⟨#[99, 104, 97, 114]⟩, ⟨#[118, 111, 105, 100]⟩, ⟨#[105, 102]⟩, ⟨#[101, 108, 115, 101]⟩, ⟨#[119, 104, 105, 108, 101]⟩, ⟨#[114, 101, 116, 117, 114, 110]⟩]
def sgs : List ByteArray := [⟨#[61, 61]⟩, ⟨#[33, 61]⟩, ⟨#[38, 38]⟩, ⟨#[124, 124]⟩, ⟨#[40]⟩, ⟨#[41]⟩, ⟨#[123]⟩, ⟨#[125]⟩, ⟨#[44]⟩, ⟨#[59]⟩, ⟨#[61]⟩, ⟨#[60]⟩, ⟨#[62]⟩, ⟨#[43]⟩, ⟨#[45]⟩, ⟨#[42]⟩, ⟨#[47]⟩, ⟨#[33]⟩]
def kwV : Array Value := (kws.map Value.string).toArray
def sgV : Array Value := (sgs.map Value.string).toArray
/-- The document's two tables lie as the program's text lays them. -/
structure Glob (w : World) : Prop where
  kw : ∃ T fr, w.heap[0]? = some (.cells kwV T fr)
  sg : ∃ T fr, w.heap[1]? = some (.cells sgV T fr)
theorem Glob.below {w w' : World} {B : Nat} (h : Glob w) (hb : Below B w w') (hB : 2 ≤ B) : Glob w' := by
  obtain ⟨⟨t0, f0, h0⟩, ⟨t1, f1, h1⟩⟩ := h
  exact ⟨⟨t0, f0, (hb.block 0 (by omega)).trans h0⟩, ⟨t1, f1, (hb.block 1 (by omega)).trans h1⟩⟩
theorem kw_ix0 (w : World) : (Instr.index 75 (.agg kwV) (.int .i64 0)).run Tryd.prog w = .ok (.string ⟨#[105, 110, 116]⟩) w := by kernel_rfl
theorem kw_ix1 (w : World) : (Instr.index 75 (.agg kwV) (.int .i64 1)).run Tryd.prog w = .ok (.string ⟨#[99, 104, 97, 114]⟩) w := by kernel_rfl
theorem kw_ix2 (w : World) : (Instr.index 75 (.agg kwV) (.int .i64 2)).run Tryd.prog w = .ok (.string ⟨#[118, 111, 105, 100]⟩) w := by kernel_rfl
theorem kw_ix3 (w : World) : (Instr.index 75 (.agg kwV) (.int .i64 3)).run Tryd.prog w = .ok (.string ⟨#[105, 102]⟩) w := by kernel_rfl
theorem kw_ix4 (w : World) : (Instr.index 75 (.agg kwV) (.int .i64 4)).run Tryd.prog w = .ok (.string ⟨#[101, 108, 115, 101]⟩) w := by kernel_rfl
theorem kw_ix5 (w : World) : (Instr.index 75 (.agg kwV) (.int .i64 5)).run Tryd.prog w = .ok (.string ⟨#[119, 104, 105, 108, 101]⟩) w := by kernel_rfl
theorem kw_ix6 (w : World) : (Instr.index 75 (.agg kwV) (.int .i64 6)).run Tryd.prog w = .ok (.string ⟨#[114, 101, 116, 117, 114, 110]⟩) w := by kernel_rfl
theorem sg_ix0 (w : World) : (Instr.index 76 (.agg sgV) (.int .i64 0)).run Tryd.prog w = .ok (.string ⟨#[61, 61]⟩) w := by kernel_rfl
theorem sg_ix1 (w : World) : (Instr.index 76 (.agg sgV) (.int .i64 1)).run Tryd.prog w = .ok (.string ⟨#[33, 61]⟩) w := by kernel_rfl
theorem sg_ix2 (w : World) : (Instr.index 76 (.agg sgV) (.int .i64 2)).run Tryd.prog w = .ok (.string ⟨#[38, 38]⟩) w := by kernel_rfl
theorem sg_ix3 (w : World) : (Instr.index 76 (.agg sgV) (.int .i64 3)).run Tryd.prog w = .ok (.string ⟨#[124, 124]⟩) w := by kernel_rfl
theorem sg_ix4 (w : World) : (Instr.index 76 (.agg sgV) (.int .i64 4)).run Tryd.prog w = .ok (.string ⟨#[40]⟩) w := by kernel_rfl
theorem sg_ix5 (w : World) : (Instr.index 76 (.agg sgV) (.int .i64 5)).run Tryd.prog w = .ok (.string ⟨#[41]⟩) w := by kernel_rfl
theorem sg_ix6 (w : World) : (Instr.index 76 (.agg sgV) (.int .i64 6)).run Tryd.prog w = .ok (.string ⟨#[123]⟩) w := by kernel_rfl
theorem sg_ix7 (w : World) : (Instr.index 76 (.agg sgV) (.int .i64 7)).run Tryd.prog w = .ok (.string ⟨#[125]⟩) w := by kernel_rfl
theorem sg_ix8 (w : World) : (Instr.index 76 (.agg sgV) (.int .i64 8)).run Tryd.prog w = .ok (.string ⟨#[44]⟩) w := by kernel_rfl
theorem sg_ix9 (w : World) : (Instr.index 76 (.agg sgV) (.int .i64 9)).run Tryd.prog w = .ok (.string ⟨#[59]⟩) w := by kernel_rfl
theorem sg_ix10 (w : World) : (Instr.index 76 (.agg sgV) (.int .i64 10)).run Tryd.prog w = .ok (.string ⟨#[61]⟩) w := by kernel_rfl
theorem sg_ix11 (w : World) : (Instr.index 76 (.agg sgV) (.int .i64 11)).run Tryd.prog w = .ok (.string ⟨#[60]⟩) w := by kernel_rfl
theorem sg_ix12 (w : World) : (Instr.index 76 (.agg sgV) (.int .i64 12)).run Tryd.prog w = .ok (.string ⟨#[62]⟩) w := by kernel_rfl
theorem sg_ix13 (w : World) : (Instr.index 76 (.agg sgV) (.int .i64 13)).run Tryd.prog w = .ok (.string ⟨#[43]⟩) w := by kernel_rfl
theorem sg_ix14 (w : World) : (Instr.index 76 (.agg sgV) (.int .i64 14)).run Tryd.prog w = .ok (.string ⟨#[45]⟩) w := by kernel_rfl
theorem sg_ix15 (w : World) : (Instr.index 76 (.agg sgV) (.int .i64 15)).run Tryd.prog w = .ok (.string ⟨#[42]⟩) w := by kernel_rfl
theorem sg_ix16 (w : World) : (Instr.index 76 (.agg sgV) (.int .i64 16)).run Tryd.prog w = .ok (.string ⟨#[47]⟩) w := by kernel_rfl
theorem sg_ix17 (w : World) : (Instr.index 76 (.agg sgV) (.int .i64 17)).run Tryd.prog w = .ok (.string ⟨#[33]⟩) w := by kernel_rfl
theorem kw_ix (j : Nat) (h : j < 7) (w : World) : (Instr.index 75 (.agg kwV) (.int .i64 (j : Int))).run Tryd.prog w = .ok (.string (kws[j]'h)) w := by
  have hj : j = 0 ∨ j = 1 ∨ j = 2 ∨ j = 3 ∨ j = 4 ∨ j = 5 ∨ j = 6 := by omega
  rcases hj with rfl | rfl | rfl | rfl | rfl | rfl | rfl
  · exact kw_ix0 w
  · exact kw_ix1 w
  · exact kw_ix2 w
  · exact kw_ix3 w
  · exact kw_ix4 w
  · exact kw_ix5 w
  · exact kw_ix6 w
theorem sg_ix (j : Nat) (h : j < 18) (w : World) : (Instr.index 76 (.agg sgV) (.int .i64 (j : Int))).run Tryd.prog w = .ok (.string (sgs[j]'h)) w := by
  have hj : j = 0 ∨ j = 1 ∨ j = 2 ∨ j = 3 ∨ j = 4 ∨ j = 5 ∨ j = 6 ∨ j = 7 ∨ j = 8 ∨ j = 9 ∨ j = 10 ∨ j = 11 ∨ j = 12 ∨ j = 13 ∨ j = 14 ∨ j = 15 ∨ j = 16 ∨ j = 17 := by omega
  rcases hj with rfl | rfl | rfl | rfl | rfl | rfl | rfl | rfl | rfl | rfl | rfl | rfl | rfl | rfl | rfl | rfl | rfl | rfl
  · exact sg_ix0 w
  · exact sg_ix1 w
  · exact sg_ix2 w
  · exact sg_ix3 w
  · exact sg_ix4 w
  · exact sg_ix5 w
  · exact sg_ix6 w
  · exact sg_ix7 w
  · exact sg_ix8 w
  · exact sg_ix9 w
  · exact sg_ix10 w
  · exact sg_ix11 w
  · exact sg_ix12 w
  · exact sg_ix13 w
  · exact sg_ix14 w
  · exact sg_ix15 w
  · exact sg_ix16 w
  · exact sg_ix17 w

/-- The keyword that a word is; else a name. -/
def kwF (raw : ByteArray) (n : Nat) : ByteArray := (kws.take n).foldl (fun a k => if k.toList == raw.toList then k else a) kName
theorem kwF_succ (raw : ByteArray) (j : Nat) (h : j < 7) : kwF raw (j + 1) = if (kws[j]'h).toList == raw.toList then kws[j]'h else kwF raw j := by
  unfold kwF
  rw [List.take_succ_eq_append_getElem (by exact h)]
  simp
/-- The sign at a place, and where it ends. -/
def sgStep (s : ByteArray) (p : Nat) (a : ByteArray × Nat) (k : ByteArray) : ByteArray × Nat := if beginsB s p k && decide (a.2 = p) then (k, p + k.size) else a
def sgF (s : ByteArray) (p : Nat) (n : Nat) : ByteArray × Nat := (sgs.take n).foldl (sgStep s p) (kNone, p)
theorem sgF_succ (s : ByteArray) (p j : Nat) (h : j < 18) : sgF s p (j + 1) = sgStep s p (sgF s p j) (sgs[j]'h) := by
  unfold sgF
  rw [List.take_succ_eq_append_getElem (by exact h)]
  simp

end Go.Proofs.YtdaneedflpfeaaaDoor
