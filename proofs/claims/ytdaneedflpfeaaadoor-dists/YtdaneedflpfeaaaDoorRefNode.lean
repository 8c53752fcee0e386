import Derived.Test.YtdaneedflpfeaaaDoorRefRead
import Derived.Maps.Range
import Derived.Test.YtdaneedflpfeaaaDoorAround
namespace Go.Proofs.YtdaneedflpfeaaaDoor
set_option maxRecDepth 100000
open Go.RowKit

theorem nodeR_take (k : ByteArray) (m : List Rw) (j : Nat) (hj : j < m.length) : nodeR k (m.take (j + 1)) = nodeR k (m.take j) ++ [(m[j]'hj).up] := by
  unfold nodeR
  rw [List.take_succ_eq_append_getElem hj, List.map_append]; rfl
theorem nodeR_len (k : ByteArray) (m : List Rw) : (nodeR k m).length = m.length + 1 := by simp [nodeR]
theorem rw_cells {w : World} {base g cap : Nat} {m : List Rw} (h : w.ownsRow base 48 3 (.slice (some ⟨g, 0, none⟩) m.length cap) m.length (rwsCells m)) (j : Nat) (hj : j < m.length) :
    w.cell? ⟨g, j * 3, none⟩ = some (.int .i64 (m[j]'hj).deep) ∧ w.cell? ⟨g, j * 3 + 1, none⟩ = some (.bool (!(m[j]'hj).inner)) ∧ w.cell? ⟨g, j * 3 + 2, none⟩ = some (.string (m[j]'hj).text) := by
  refine ⟨?_, ?_, ?_⟩
  · rw [h.cellAt (j * 3) (by omega)]; have := rwsCells_get m j 0 (by omega); rw [Nat.add_zero] at this; rw [this, List.getElem?_eq_getElem hj]; rfl
  · rw [h.cellAt (j * 3 + 1) (by omega), rwsCells_get m j 1 (by omega), List.getElem?_eq_getElem hj]; rfl
  · rw [h.cellAt (j * 3 + 2) (by omega), rwsCells_get m j 2 (by omega), List.getElem?_eq_getElem hj]; rfl

set_option maxHeartbeats 3200000 in
theorem node_any (k : ByteArray) (u : Value) (w : World) (m : List Rw) (base : Nat) (hsrc : w.ownsRow base 48 3 u m.length (rwsCells m)) (hfew : m.length ≤ 99999) (hdeep : ∀ x ∈ m, x.deep ≤ 99999) :
    Calls Tryd.prog 20 #[.string k, u] w fun e w' => ∃ v, e = .returned v ∧ w.grownBy w' none ∧ w'.ownsRow w.heap.size 48 3 v (nodeR k m).length (rwsCells (nodeR k m)) := by
  obtain ⟨i0, hi, hz0, hz1, hz2⟩ := info_parts Tryd.infoRow
  have HS := hide hsrc
  rcases row_form hsrc with ⟨rfl, hm⟩ | ⟨g, cap, rfl, hg⟩
  · have hm0 : m = [] := List.length_eq_zero_iff.mp hm
    subst hm0
    clear hsrc
    go_enter Tryd.func20, Tryd.ntmps20
    go_wp2_with fail
    go_loopw [5, 7, 13] (fun v _ c wr => c = .int .i64 0 ∧ v = .slice (some ⟨w.heap.size, 0, none⟩) 1 1 ∧ wr = w.alloc (.cells #[.int .i64 0, .bool false, .string k] 48 (0, 0))) (fun _ _ _ _ => 0)
    case atStart => exact ⟨rfl, rfl, rfl⟩
    case round =>
      obtain ⟨rfl, rfl, rfl⟩ := hrel
      go_wp2_with fail
      go_ret
      exact ⟨_, rfl, World.grownBy_alloc _ _ _, World.ownsRow_lit (base := w.heap.size) (size := 3) w #[.int .i64 0, .bool false, .string k] 1 (Nat.le_refl _) (by decide) rfl⟩
  · clear hsrc
    have HD := hide hdeep
    clear hdeep
    go_enter Tryd.func20, Tryd.ntmps20
    go_wp2_with fail
    go_loopw [5, 7, 13] (fun v _ c wr => ∃ j : Nat, j ≤ m.length ∧ c = .int .i64 j ∧ wr.ownsRow w.heap.size 48 3 v (j + 1) (rwsCells (nodeR k (m.take j))) ∧ w.grownBy wr none) (fun _ _ c _ => m.length - (intOf c).toNat)
    case atStart => exact ⟨0, by omega, rfl, World.ownsRow_lit (base := w.heap.size) (size := 3) w #[.int .i64 0, .bool false, .string k] 1 (Nat.le_refl _) (by decide) rfl, World.grownBy_alloc _ _ _⟩
    case round =>
      obtain ⟨j, hj, rfl, hown, hgr⟩ := hrel
      by_cases hjl : j < m.length
      · obtain ⟨r0, r1, r2⟩ := rw_cells ((unhide HS).kept hgr (.inr (by intro e; cases e))) j hjl
        have hsz := hgr.size
        have hdj := unhide HD _ (List.getElem_mem hjl)
        have HN := hide (nodeR_take k m j hjl)
        have HO := hide hown
        have HGR := hide hgr
        have c1 := rwsCells_len (nodeR k (m.take j))
        clear hown hgr
        generalize m[j]'hjl = r at *
        go_wp2_with (first
          | (at_builtin; refine wpList_append_lies _ rfl (.tmp 21) (.tmp 23) 25 rfl w.heap.size 48 i0 (.agg #[.int .i64 0, .bool false, .string ⟨#[]⟩]) 3 32 Tryd.underlying25 hi hz0 hz1 hz2 rfl (by decide) _ (j + 1) (rwsCells (nodeR k (m.take j))) rfl (((unhide HO).alloc _).alloc _) ⟨wr.heap.size + 1, 0, none⟩ 1 1 [.int .i64 (r.deep + 1), .bool (!r.inner), .string r.text] rfl rfl (rw_news _ _ _ (new2 _ _ _)) (rw_one _ _ _) (by decide) (by unfold maxLen; omega) (by omega) (by simp; omega) _ rfl ?_)
          | fail)
        intro g2 cap2 w2 hown2 hgrow _ hlt2
        have hg2 : w.grownBy w2 none := ((unhide HGR).trans ((World.grownBy_alloc _ _ none).trans (World.grownBy_alloc _ _ none))).andThen hgrow (fun k hk => .inl ((unhide HO).lt k hk).1)
        have HG2 := hide hg2
        have HO2 := hide hown2
        clear hown2 hgrow hg2 HO
        go_wp2_with fail
        go_roundw
        case rel =>
          refine ⟨j + 1, by omega, by go_num, ?_, unhide HG2⟩
          rw [unhide HN, rwsCells_append, rwsCells_one]
          exact unhide HO2
        case measure => simp [intOf]; omega
      · have hje : j = m.length := by omega
        subst hje
        rw [List.take_length] at hown
        have HO := hide hown
        have HGR := hide hgr
        clear hown hgr
        go_wp2_with fail
        go_ret
        refine ⟨_, rfl, unhide HGR, ?_⟩
        rw [nodeR_len]; exact unhide HO

end Go.Proofs.YtdaneedflpfeaaaDoor
