import Derived.Test.YtdaneedflpfeaaaDoorToks
import Derived.Deep.RegionHeld3
import Derived.Deep.RegionLaw
namespace Go.Proofs.YtdaneedflpfeaaaDoor
set_option maxRecDepth 100000
open Go.RowKit

structure Nd where
  inner : Bool
  text : ByteArray
  depth : Int
def ndCells (n : Nd) : List Value := [.bool n.inner, .string n.text, .int .i64 n.depth]
def ndsCells (l : List Nd) : List Value := l.flatMap ndCells
theorem ndsCells_len (l : List Nd) : (ndsCells l).length = l.length * 3 := by
  induction l with
  | nil => rfl
  | cons t l ih => simp only [ndsCells, List.flatMap_cons, List.length_append, List.length_cons] at *; rw [ih]; simp [ndCells]; omega
theorem ndsCells_snoc (l : List Nd) (t : Nd) : ndsCells (l ++ [t]) = ndsCells l ++ ndCells t := by simp [ndsCells]

/-- The parser's state. -/
structure PSt where
  at_ : Nat
  failed : Bool
  nodes : List Nd
  depth : Int

/-- How great a state is. -/
def sz (st : PSt) (n : Nat) : Prop := st.nodes.length ≤ n ∧ -(n : Int) ≤ st.depth ∧ st.depth ≤ n ∧ ∀ x ∈ st.nodes, -(n : Int) ≤ x.depth ∧ x.depth ≤ n
theorem sz.mono {st : PSt} {n m : Nat} (h : sz st n) (hm : n ≤ m) : sz st m :=
  ⟨by have := h.1; omega, by have := h.2.1; omega, by have := h.2.2.1; omega, fun x hx => by have := h.2.2.2 x hx; omega⟩

/-- The parser's memory: its block b, the tokens' row below it, the nodes' row above it. -/
structure PS (b : Nat) (tv : Value) (toks : List Tok) (w : World) (st : PSt) : Prop where
  nd : ∃ nv, w.heap[b]? = some (.cells #[tv, .int .i64 st.at_, .bool st.failed, nv, .int .i64 st.depth] 65 (0, 0)) ∧ w.ownsRow (b + 1) 69 3 nv st.nodes.length (ndsCells st.nodes)
  tok : w.ownsRow 0 88 3 tv toks.length (toksCells toks)
  tat : ∃ g cap, tv = .slice (some ⟨g, 0, none⟩) toks.length cap ∧ g < b
  few : toks.length ≤ 1000
  att : st.at_ ≤ toks.length
  siz : sz st 1000000

theorem toksCells_get (l : List Tok) (i j : Nat) (hj : j < 3) : (toksCells l)[i * 3 + j]? = l[i]?.bind fun t => (tokCells t)[j]? := by
  induction l generalizing i with
  | nil => simp [toksCells]
  | cons t l ih =>
    cases i with
    | zero =>
      simp only [toksCells, List.flatMap_cons, Nat.zero_mul, Nat.zero_add, List.getElem?_cons_zero, Option.bind_some]
      rw [List.getElem?_append_left (by simp [tokCells]; omega)]
    | succ i =>
      have : (i + 1) * 3 + j = 3 + (i * 3 + j) := by omega
      rw [this]
      simp only [toksCells, List.flatMap_cons, List.getElem?_cons_succ]
      rw [List.getElem?_append_right (by simp [tokCells])]
      simp only [tokCells, List.length_cons, List.length_nil, Nat.add_sub_cancel_left]
      exact ih i
theorem ndsCells_get (l : List Nd) (i j : Nat) (hj : j < 3) : (ndsCells l)[i * 3 + j]? = l[i]?.bind fun t => (ndCells t)[j]? := by
  induction l generalizing i with
  | nil => simp [ndsCells]
  | cons t l ih =>
    cases i with
    | zero =>
      simp only [ndsCells, List.flatMap_cons, Nat.zero_mul, Nat.zero_add, List.getElem?_cons_zero, Option.bind_some]
      rw [List.getElem?_append_left (by simp [ndCells]; omega)]
    | succ i =>
      have : (i + 1) * 3 + j = 3 + (i * 3 + j) := by omega
      rw [this]
      simp only [ndsCells, List.flatMap_cons, List.getElem?_cons_succ]
      rw [List.getElem?_append_right (by simp [ndCells])]
      simp only [ndCells, List.length_cons, List.length_nil, Nat.add_sub_cancel_left]
      exact ih i

section
variable {b : Nat} {tv : Value} {toks : List Tok} {w : World} {st : PSt}
theorem PS.lt (h : PS b tv toks w st) : b < w.heap.size := by
  obtain ⟨nv, hb, _⟩ := h.nd
  rcases Nat.lt_or_ge b w.heap.size with hlt | hge
  · exact hlt
  · rw [Array.getElem?_eq_none hge] at hb; cases hb
/-- The cells of the parser. -/
theorem PS.cells (h : PS b tv toks w st) : ∃ nv, w.cell? ⟨b, 0, none⟩ = some tv ∧ w.cell? ⟨b, 1, none⟩ = some (.int .i64 st.at_) ∧ w.cell? ⟨b, 2, none⟩ = some (.bool st.failed) ∧ w.cell? ⟨b, 3, none⟩ = some nv ∧ w.cell? ⟨b, 4, none⟩ = some (.int .i64 st.depth) ∧
    (∀ j, w.frozen? ⟨b, j, none⟩ = false) ∧ w.ownsRow (b + 1) 69 3 nv st.nodes.length (ndsCells st.nodes) ∧ w.heap[b]? = some (.cells #[tv, .int .i64 st.at_, .bool st.failed, nv, .int .i64 st.depth] 65 (0, 0)) := by
  obtain ⟨nv, hb, hown⟩ := h.nd
  refine ⟨nv, ?_, ?_, ?_, ?_, ?_, fun j => frozen_of_row w b j _ _ hb, hown, hb⟩
  all_goals (rw [cell_of_row w b _ _ _ _ hb]; rfl)
/-- A token's cells. -/
theorem PS.tokCell (h : PS b tv toks w st) {g cap : Nat} (hg : tv = .slice (some ⟨g, 0, none⟩) toks.length cap) {i : Nat} {t : Tok} (hi : toks[i]? = some t) :
    w.cell? ⟨g, i * 3, none⟩ = some (.string t.kind) ∧ w.cell? ⟨g, i * 3 + 1, none⟩ = some (.string t.text) ∧ w.cell? ⟨g, i * 3 + 2, none⟩ = some (.int .i64 t.place) := by
  have hlt : i < toks.length := by
    rcases Nat.lt_or_ge i toks.length with h | h
    · exact h
    · rw [List.getElem?_eq_none h] at hi; cases hi
  have ho := h.tok
  rw [hg] at ho
  refine ⟨?_, ?_, ?_⟩
  · rw [ho.cellAt (i * 3) (by omega)]; have := toksCells_get toks i 0 (by omega); rw [Nat.add_zero] at this; rw [this, hi]; rfl
  · rw [ho.cellAt (i * 3 + 1) (by omega), toksCells_get toks i 1 (by omega), hi]; rfl
  · rw [ho.cellAt (i * 3 + 2) (by omega), toksCells_get toks i 2 (by omega), hi]; rfl
end

def kindAtL (toks : List Tok) (st : PSt) (i : Nat) : ByteArray := if st.failed then kNone else match toks[i]? with | none => kNone | some t => t.kind
def kindL (toks : List Tok) (st : PSt) : ByteArray := kindAtL toks st st.at_

set_option maxHeartbeats 800000 in
theorem kindAt_any (b : Nat) (tv : Value) (toks : List Tok) (w : World) (st : PSt) (h : PS b tv toks w st) (i : Int) (h0 : 0 ≤ i) :
    Calls Tryd.prog 59 #[.pointer (some ⟨b, 0, none⟩), .int .i64 i] w fun e w' => e = .returned (.string (kindAtL toks st i.toNat)) ∧ w' = w := by
  obtain ⟨k, rfl⟩ := Int.eq_ofNat_of_zero_le h0
  rw [Int.toNat_natCast]
  obtain ⟨nv, c0, c1, c2, c3, c4, hf, _, _⟩ := h.cells
  obtain ⟨g, cap, rfl, hgb⟩ := h.tat
  have hfew := h.few
  cases hfl : st.failed with
  | true =>
    have HF : Hid (kindAtL toks st k = kNone) := by show kindAtL toks st k = _; simp [kindAtL, hfl]
    rw [hfl] at c2
    clear hfl
    go_enter Tryd.func59, Tryd.ntmps59
    go_wp2_with fail
    go_ret
    exact ⟨ret_str (unhide HF).symm, rfl⟩
  | false =>
    rw [hfl] at c2
    by_cases hlt : k < toks.length
    · obtain ⟨t, ht⟩ : ∃ t, toks[k]? = some t := ⟨toks[k], List.getElem?_eq_getElem hlt⟩
      obtain ⟨t0, t1, t2⟩ := h.tokCell rfl ht
      have HF : Hid (kindAtL toks st k = t.kind) := by show kindAtL toks st k = _; simp [kindAtL, hfl, ht]
      have HI : Hid (k < toks.length) := hlt
      have hlt' : (k : Int) < (toks.length : Int) := by omega
      clear hfl ht
      go_enter Tryd.func59, Tryd.ntmps59
      go_wp2_with fail
      go_ret
      exact ⟨ret_str (unhide HF).symm, rfl⟩
    · have HF : Hid (kindAtL toks st k = kNone) := by show kindAtL toks st k = _; simp [kindAtL, hfl, List.getElem?_eq_none (Nat.le_of_not_lt hlt)]
      clear hfl
      go_enter Tryd.func59, Tryd.ntmps59
      go_wp2_with fail
      go_ret
      exact ⟨ret_str (unhide HF).symm, rfl⟩

theorem kind_any (b : Nat) (tv : Value) (toks : List Tok) (w : World) (st : PSt) (h : PS b tv toks w st) :
    Calls Tryd.prog 43 #[.pointer (some ⟨b, 0, none⟩)] w fun e w' => e = .returned (.string (kindL toks st)) ∧ w' = w := by
  obtain ⟨nv, c0, c1, c2, c3, c4, hf, _, _⟩ := h.cells
  go_enter Tryd.func43, Tryd.ntmps43
  go_wp2_with (go_at_call 59; refine (kindAt_any b tv toks _ st h _ (by omega)).mono ?_; rintro e w1 ⟨rfl, hw⟩; have hw := hw.symm; subst hw)
  go_ret
  exact ⟨rfl, rfl⟩

end Go.Proofs.YtdaneedflpfeaaaDoor
