import Derived.Test.YtabafeckdclekaaGreatDoorRefQ5
import Derived.Deep.RegionLaw
namespace Go.Proofs.YtabafeckdclekaaGreatDoor
set_option maxRecDepth 100000
open Go.RowKit

def Rw.down (r : Rw) : Rw := { r with deep := r.deep - 1 }
def stepR (l : List Rw) : Stp → Option (List Rw)
  | .ren k b t => if k < 1 ∨ l.length < k then none else if b = false ∧ 0 < undR l (k - 1) then none else match l[k - 1]? with | some x => some (l.set (k - 1) ⟨x.deep, b, t⟩) | none => none
  | .del k => if k < 1 ∨ l.length < k then none else some (l.take (k - 1) ++ ((l.drop k).take (undR l (k - 1))).map Rw.down ++ l.drop (k + undR l (k - 1)))
  | .ins p i n b t => if l.length < p then none else insR l p i n b t
def stepO (l : List Rw) (o : Option Stp) : Option (List Rw) := o.bind (stepR l)
theorem cntR_pos {x : List UInt8} {k : Nat} (h : numV x = some k) : cntR (numV x) = (k : Int) := by rw [h]; rfl
theorem cntR_neg {x : List UInt8} (h : numV x = none) : cntR (numV x) = -1 := by rw [h]; rfl
theorem cntR_bd (x : List UInt8) : -1 ≤ cntR (numV x) ∧ cntR (numV x) ≤ 999999 := by
  cases h : numV x with
  | none => decide
  | some k => have := numV_bd h; show -1 ≤ (k : Int) ∧ (k : Int) ≤ 999999; omega
/-- Rows that have been lifted by one, up to a place. -/
def lifts (l : List Rw) (n j : Nat) : List Rw := l.take (n + 1) ++ ((l.drop (n + 1)).take j).map Rw.down ++ l.drop (n + 1 + j)
theorem lifts_len (l : List Rw) (n j : Nat) : (lifts l n j).length = l.length := by
  simp only [lifts, List.length_append, List.length_take, List.length_map, List.length_drop]; omega
theorem lifts_zero (l : List Rw) (n : Nat) : lifts l n 0 = l := by simp [lifts]
theorem lifts_get {l : List Rw} {n j : Nat} (h : n + 1 + j < l.length) : (lifts l n j)[n + 1 + j]? = l[n + 1 + j]? := by
  have e : (l.take (n + 1) ++ ((l.drop (n + 1)).take j).map Rw.down).length = n + 1 + j := by simp only [List.length_append, List.length_take, List.length_map, List.length_drop]; omega
  rw [lifts, List.getElem?_append_right (by omega), e, Nat.sub_self, List.getElem?_drop, Nat.add_zero]
theorem lifts_set {l : List Rw} {n j : Nat} {x : Rw} (hx : l[n + 1 + j]? = some x) : (lifts l n j).set (n + 1 + j) x.down = lifts l n (j + 1) := by
  have h : n + 1 + j < l.length := by
    rcases Nat.lt_or_ge (n + 1 + j) l.length with q | q
    · exact q
    · rw [List.getElem?_eq_none q] at hx; cases hx
  have e : (l.take (n + 1) ++ ((l.drop (n + 1)).take j).map Rw.down).length = n + 1 + j := by simp only [List.length_append, List.length_take, List.length_map, List.length_drop]; omega
  rw [lifts, List.set_append_right _ _ (by omega), e, Nat.sub_self, List.drop_eq_getElem_cons h, List.set_cons_zero, lifts]
  rw [List.getElem?_eq_getElem h] at hx
  have hx' := Option.some.inj hx
  have e2 : (l.drop (n + 1)).take (j + 1) = (l.drop (n + 1)).take j ++ [x] := by
    rw [List.take_succ_eq_append_getElem (by rw [List.length_drop]; omega)]
    congr 2
    rw [List.getElem_drop]; exact hx'
  rw [e2, List.map_append, show n + 1 + (j + 1) = n + 1 + j + 1 by omega]
  simp
theorem goU_deep (l : List Rw) (d e : Nat) : ∀ i x, e ≤ i → i < goU l d e → l[i]? = some x → d < x.deep := by
  induction e using goU.induct l d with
  | case1 e h1 h2 ih =>
    intro i x hi hg hx
    rw [goU, dif_pos h1, if_pos h2] at hg
    rcases Nat.lt_or_ge e i with q | q
    · exact ih i x q hg hx
    · have : i = e := by omega
      subst this
      rw [List.getElem?_eq_getElem h1] at hx
      rw [← Option.some.inj hx]; exact h2
  | case2 e h1 h2 => intro i x hi hg hx; rw [goU, dif_pos h1, if_neg h2] at hg; omega
  | case3 e h1 => intro i x hi hg hx; rw [goU, dif_neg h1] at hg; omega
theorem undR_deep {l : List Rw} {q j : Nat} {x : Rw} (hq : q < l.length) (hj : j < undR l q) (hx : l[q + 1 + j]? = some x) : 1 ≤ x.deep := by
  unfold undR at hj
  rw [List.getElem?_eq_getElem hq] at hj
  simp only at hj
  have := goU_deep l (l[q]).deep (q + 1) (q + 1 + j) x (by omega) (by omega) hx
  omega
theorem RA.to_own {w : World} {base g cap n : Nat} {l : List Rw} (h : w.ownsRow base 42 3 (.slice (some ⟨g, 0, none⟩) n cap) n (rwsCells l)) : ∀ j, w.frozen? ⟨g, j, none⟩ = false := by
  rcases h.2 with ⟨h0, _⟩ | ⟨g', cap', cur, hv, _, hb, _⟩
  · cases h0
  · simp only [Value.slice.injEq, Option.some.injEq, Addr.mk.injEq, and_true, true_and] at hv
    obtain ⟨rfl, _⟩ := hv
    exact fun j => frozen_of_row w _ j _ _ hb

end Go.Proofs.YtabafeckdclekaaGreatDoor
