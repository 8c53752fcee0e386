import Derived.Test.YtdaneedflpfeaaaDoorParse6
namespace Go.Proofs.YtdaneedflpfeaaaDoor
set_option maxRecDepth 100000
open Go.RowKit

theorem row_keep {w w' : World} {base e size g n cap : Nat} {xs : List Value} (h : w.ownsRow base e size (.slice (some ⟨g, 0, none⟩) n cap) n xs) (hb : w'.heap[g]? = w.heap[g]?) : w'.ownsRow base e size (.slice (some ⟨g, 0, none⟩) n cap) n xs := by
  refine ⟨h.1, ?_⟩
  rcases h.2 with h2 | ⟨g', cap', cur, hv, h3, h4, h5⟩
  · exact .inl h2
  · refine .inr ⟨g', cap', cur, hv, h3, ?_, h5⟩
    simp only [Value.slice.injEq, Option.some.injEq, Addr.mk.injEq, and_true, true_and] at hv
    obtain ⟨rfl, rfl⟩ := hv
    rw [hb]; exact h4
theorem row_below {w w' : World} {base e size B n : Nat} {v : Value} {xs : List Value} (h : w.ownsRow base e size v n xs) (hv : ∀ k, v.ownBlock = some k → k < B) (hb : Below B w w') : w'.ownsRow base e size v n xs := by
  rcases h.2 with ⟨rfl, rfl⟩ | ⟨g, cap, cur, rfl, _⟩
  · exact ⟨h.1, .inl ⟨rfl, rfl⟩⟩
  · exact row_keep h (hb.block g (hv g rfl))
theorem row_base {w : World} {base base' e size n : Nat} {v : Value} {xs : List Value} (h : w.ownsRow base e size v n xs) (hb : base' ≤ base) : w.ownsRow base' e size v n xs := by
  refine ⟨h.1, ?_⟩
  rcases h.2 with h2 | ⟨g, cap, cur, hv, h3, h4⟩
  · exact .inl h2
  · exact .inr ⟨g, cap, cur, hv, Nat.le_trans hb h3, h4⟩

def innerStep (d : Int) (n : Nd) : Int := if n.inner = true ∧ d < n.depth then n.depth else d
/-- How many inner nodes stand within each other. -/
def innerD (l : List Nd) : Int := l.foldl innerStep 0
theorem innerD_snoc (l : List Nd) (n : Nd) : innerD (l ++ [n]) = innerStep (innerD l) n := by simp [innerD]

/-- The cells of a row of nodes. -/
theorem row_nd {w : World} {base g cap : Nat} {l : List Nd} (hown : w.ownsRow base 69 3 (.slice (some ⟨g, 0, none⟩) l.length cap) l.length (ndsCells l)) {i : Nat} {x : Nd} (hi : l[i]? = some x) :
    w.cell? ⟨g, i * 3, none⟩ = some (.bool x.inner) ∧ w.cell? ⟨g, i * 3 + 1, none⟩ = some (.string x.text) ∧ w.cell? ⟨g, i * 3 + 2, none⟩ = some (.int .i64 x.depth) := by
  have hlt : i < l.length := by
    rcases Nat.lt_or_ge i l.length with h | h
    · exact h
    · rw [List.getElem?_eq_none h] at hi; cases hi
  refine ⟨?_, ?_, ?_⟩
  · rw [hown.cellAt (i * 3) (by omega)]; have := ndsCells_get l i 0 (by omega); rw [Nat.add_zero] at this; rw [this, hi]; rfl
  · rw [hown.cellAt (i * 3 + 1) (by omega), ndsCells_get l i 1 (by omega), hi]; rfl
  · rw [hown.cellAt (i * 3 + 2) (by omega), ndsCells_get l i 2 (by omega), hi]; rfl

theorem take_snoc' {α : Type} (l : List α) (k : Nat) (x : α) (h : l[k]? = some x) : l.take (k + 1) = l.take k ++ [x] := by
  rw [List.take_add_one, h]; rfl

set_option maxHeartbeats 1600000 in
theorem innerDepth_any (l : List Nd) (base g cap : Nat) (w : World) (hl : l.length ≤ 1000000) (hg : g < w.heap.size) (hown : w.ownsRow base 69 3 (.slice (some ⟨g, 0, none⟩) l.length cap) l.length (ndsCells l)) :
    Calls Tryd.prog 26 #[.slice (some ⟨g, 0, none⟩) l.length cap] w fun e w' => e = .returned (.int .i64 (innerD l)) ∧ Below w.heap.size w w' := by
  have HO := hide hown
  clear hown
  go_enter Tryd.func26, Tryd.ntmps26
  go_wp2_with fail
  go_loopw [3, 5, 8] (fun d _ i wr => ∃ k : Nat, k ≤ l.length ∧ i = .int .i64 k ∧ d = .int .i64 (innerD (l.take k)) ∧ Below w.heap.size w wr) (fun _ _ i _ => l.length - (intOf i).toNat)
  case atStart => exact ⟨0, Nat.zero_le _, rfl, rfl, Below.refl _ _⟩
  case round =>
    obtain ⟨k, hk, rfl, rfl, hB⟩ := hrel
    have HB := hide hB
    have hsz := hB.size
    have hgr : g < wr.heap.size := by omega
    by_cases hlt : k < l.length
    · obtain ⟨x, hx⟩ : ∃ x, l[k]? = some x := ⟨_, List.getElem?_eq_getElem hlt⟩
      obtain ⟨x0, x1, x2⟩ := row_nd (row_keep (unhide HO) (hB.block g hg)) hx
      have HI : Hid (innerD (l.take (k + 1)) = innerStep (innerD (l.take k)) x) := by show innerD (l.take (k + 1)) = _; rw [take_snoc' l k x hx, innerD_snoc]
      clear hB hx
      generalize innerD (l.take k) = d at *
      cases hin : x.inner with
      | true =>
        rw [hin] at x0
        by_cases hdx : d < x.depth
        · have HI2 : Hid (innerStep d x = x.depth) := by show innerStep d x = _; simp [innerStep, hin, hdx]
          clear hin
          go_wp2_with fail
          go_roundw
          case rel => exact ⟨k + 1, by omega, by go_num, by rw [unhide HI, unhide HI2], (unhide HB).alloc hsz _⟩
          case measure => simp [intOf]; omega
        · have HI2 : Hid (innerStep d x = d) := by show innerStep d x = _; simp [innerStep, hdx]
          clear hin
          go_wp2_with fail
          go_roundw
          case rel => exact ⟨k + 1, by omega, by go_num, by rw [unhide HI, unhide HI2], (unhide HB).alloc hsz _⟩
          case measure => simp [intOf]; omega
      | false =>
        rw [hin] at x0
        have HI2 : Hid (innerStep d x = d) := by show innerStep d x = _; simp [innerStep, hin]
        clear hin
        go_wp2_with fail
        go_roundw
        case rel => exact ⟨k + 1, by omega, by go_num, by rw [unhide HI, unhide HI2], (unhide HB).alloc hsz _⟩
        case measure => simp [intOf]; omega
    · have HT : Hid (l.take k = l) := List.take_of_length_le (by omega)
      clear hB
      go_wp2_with fail
      go_ret
      exact ⟨ret_int (by rw [unhide HT]), unhide HB⟩

end Go.Proofs.YtdaneedflpfeaaaDoor
