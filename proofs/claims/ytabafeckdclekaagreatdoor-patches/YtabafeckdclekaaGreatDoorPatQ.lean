import Derived.Test.YtabafeckdclekaaGreatDoorPatP
namespace Go.Proofs.YtabafeckdclekaaGreatDoor
set_option maxRecDepth 100000
open Go.RowKit

theorem own_frz {w : World} {base g cap n : Nat} {xs : List Value} (h : w.ownsRow base 51 3 (.slice (some ⟨g, 0, none⟩) n cap) n xs) : ∀ j, w.frozen? ⟨g, j, none⟩ = false := by
  rcases h.2 with ⟨h0, _⟩ | ⟨g', cap', cur, hv, _, hb, _⟩
  · cases h0
  · simp only [Value.slice.injEq, Option.some.injEq, Addr.mk.injEq, and_true, true_and] at hv
    obtain ⟨rfl, _⟩ := hv
    exact fun j => frozen_of_row w _ j _ _ hb
theorem own_cap {w : World} {base g cap n : Nat} {xs : List Value} (h : w.ownsRow base 51 3 (.slice (some ⟨g, 0, none⟩) n cap) n xs) : n ≤ cap ∧ cap ≤ maxLen := by
  rcases h.2 with ⟨h0, _⟩ | ⟨g', cap', cur, hv, _, hb, h1, h2, _⟩
  · cases h0
  · simp only [Value.slice.injEq, Option.some.injEq, Addr.mk.injEq, and_true, true_and] at hv
    obtain ⟨_, rfl⟩ := hv
    exact ⟨h1, h2⟩
theorem nd_set {w : World} {base g cap n : Nat} {l : List Nd} (hn : n = l.length) (h : w.ownsRow base 51 3 (.slice (some ⟨g, 0, none⟩) n cap) l.length (ndsCells l)) (i : Nat) (x : Nd) (hi : i < l.length) :
    (((w.setCell ⟨g, i * 3, none⟩ (.bool x.inner)).setCell ⟨g, i * 3 + 1, none⟩ (.string x.text)).setCell ⟨g, i * 3 + 2, none⟩ (.int .i64 x.depth)).ownsRow base 51 3 (.slice (some ⟨g, 0, none⟩) n cap) (l.set i x).length (ndsCells (l.set i x)) := by
  subst hn
  have h1 := (h.stored (i * 3) (.bool x.inner)).1
  have h2 := (h1.stored (i * 3 + 1) (.string x.text)).1
  have h3 := (h2.stored (i * 3 + 2) (.int .i64 x.depth)).1
  rw [ndsCells_set _ _ _ hi, List.length_set]
  exact h3
/-- r K LABEL. -/
def renN (l : List Nd) (k : Nat) (b : Bool) (t : ByteArray) : Option (List Nd) :=
  if k < 1 ∨ l.length ≤ k then none else if b = false ∧ k + 1 < subE l k then none else match l[k]? with | some x => some (l.set k ⟨b, t, x.depth⟩) | none => none

theorem nd_cells {w : World} {b : Nat} {i : Bool} {t : ByteArray} {d : Int} {T : TypeId} (h : w.heap[b]? = some (.cells #[.bool i, .string t, .int .i64 d] T (0, 0))) :
    w.cell? ⟨b, 0, none⟩ = some (.bool i) ∧ w.cell? ⟨b, 1, none⟩ = some (.string t) ∧ w.cell? ⟨b, 2, none⟩ = some (.int .i64 d) ∧ ∀ j, w.frozen? ⟨b, j, none⟩ = false := by
  refine ⟨?_, ?_, ?_, fun j => frozen_of_row w b j _ T h⟩ <;> (rw [cell_of_row w b _ _ T _ h]; rfl)
theorem set3 {w : World} {b : Nat} {c0 c1 c2 v : Value} {T : TypeId} (h : w.heap[b]? = some (.cells #[c0, c1, c2] T (0, 0))) : (w.setCell ⟨b, 2, none⟩ v).heap[b]? = some (.cells #[c0, c1, v] T (0, 0)) := by
  have := heap_setCell_same _ b 2 _ T v h
  rw [show (#[c0, c1, c2].setIfInBounds 2 v) = #[c0, c1, v] from by rw [← Array.toList_inj]; simp] at this
  exact this

set_option maxHeartbeats 6400000 in
theorem rename_any (l : List Nd) (k g cap : Nat) (b : Bool) (t : ByteArray) (w : World) (hl : l.length ≤ 1000000) (hk : k ≤ 1000000) (hd : Deep l) (hn : NA w g 0 l) :
    Calls Tryz.prog 41 #[.slice (some ⟨g, 0, none⟩) l.length cap, .int .i64 (k : Int), .agg #[.bool b, .string t, .int .i64 0]] w fun e w' => ListR w (renN l k b t) e w' := by
  by_cases hk1 : k < 1
  · have HR : Hid (renN l k b t = none) := by show _ = _; rw [renN, if_pos (.inl hk1)]
    go_enter Tryz.func41, Tryz.ntmps41
    go_wp2_with fail
    go_ret2
    rw [unhide HR]
    exact ⟨(Below.refl _ _).alloc (Nat.le_refl _) _, rfl⟩
  by_cases hkl : l.length ≤ k
  · have HR : Hid (renN l k b t = none) := by show _ = _; rw [renN, if_pos (.inr hkl)]
    go_enter Tryz.func41, Tryz.ntmps41
    go_wp2_with fail
    go_ret2
    rw [unhide HR]
    exact ⟨(Below.refl _ _).alloc (Nat.le_refl _) _, rfl⟩
  have hkl' : k < l.length := by omega
  have hsub := subE_le hkl'
  obtain ⟨x, hx⟩ : ∃ x, l[k]? = some x := ⟨_, List.getElem?_eq_getElem hkl'⟩
  have HX := hide hx
  have HN := hide hn
  have hgl := hn.lt
  have HD := hide hd
  have HLW : Hid (∀ wx cap', NA wx g 0 l → Calls Tryz.prog 66 #[.slice (some ⟨g, 0, none⟩) l.length cap', .int .i64 0] wx fun e w' => Below wx.heap.size wx w' ∧ ∃ v, e = .returned v ∧ w'.ownsRow wx.heap.size 51 3 v l.length (ndsCells l)) := fun wx cap' hx => by
    have := lowered_any l 0 g 0 cap' wx hl (by omega) (unhide HD) hx
    rw [map_sh0] at this
    exact this
  have HRN : Hid (¬ (b = false ∧ k + 1 < subE l k) → renN l k b t = some (l.set k ⟨b, t, x.depth⟩)) := fun h => by rw [renN, if_neg (by omega), if_neg h, hx]
  -- what follows once the label's depth is set
  have HEND : Hid (∀ (w1 w2 : World) (vm : Value), Below w.heap.size w w1 → w.heap.size < w1.heap.size → Below w1.heap.size w1 w2 → w1.heap[w.heap.size]? = some (.cells #[.bool b, .string t, .int .i64 x.depth] 51 (0, 0)) → w2.ownsRow w1.heap.size 51 3 vm l.length (ndsCells l) →
      ∃ (g2 cap2 : Nat) (y : Nd), vm = .slice (some ⟨g2, 0, none⟩) l.length cap2 ∧ (w2.cell? ⟨w.heap.size, 0, none⟩ = some (.bool b) ∧ w2.cell? ⟨w.heap.size, 1, none⟩ = some (.string t) ∧ w2.cell? ⟨w.heap.size, 2, none⟩ = some (.int .i64 x.depth) ∧ ∀ j, w2.frozen? ⟨w.heap.size, j, none⟩ = false) ∧ (w2.cell? ⟨g2, k * 3, none⟩ = some (.bool y.inner) ∧ w2.cell? ⟨g2, k * 3 + 1, none⟩ = some (.string y.text) ∧ w2.cell? ⟨g2, k * 3 + 2, none⟩ = some (.int .i64 y.depth)) ∧ (∀ j, w2.frozen? ⟨g2, j, none⟩ = false) ∧ w.heap.size < g2 ∧
      ListR w (some (l.set k ⟨b, t, x.depth⟩)) (.returned (.tuple #[vm, .bool true])) (((w2.setCell ⟨g2, k * 3, none⟩ (.bool b)).setCell ⟨g2, k * 3 + 1, none⟩ (.string t)).setCell ⟨g2, k * 3 + 2, none⟩ (.int .i64 x.depth))) := by
    intro w1 w2 vm hB1 hlt hB2 hbk hown
    rcases row_form hown with ⟨_, h0⟩ | ⟨g2, cap2, rfl, hg2⟩
    · omega
    have hge := (hown.lt g2 rfl).1
    have hna := NA.of_own hown hg2 rfl
    refine ⟨g2, cap2, x, rfl, nd_cells ((hB2.block _ hlt).trans hbk), hna.cell0 (unhide HX), own_frz hown, by omega, ?_, _, rfl, ?_⟩
    · have hb : Below w.heap.size w w2 := hB1.trans (hB2.mono hB1.size)
      exact below_set (below_set (below_set hb (by omega) _) (by omega) _) (by omega) _
    · exact ownsRow_base (nd_set rfl hown k ⟨b, t, x.depth⟩ hkl') (by omega)
  cases b with
  | true =>
    have HR := hide (unhide HRN (fun h => by cases h.1))
    obtain ⟨_, _, x2⟩ := hn.cell0 hx
    have HNX : Hid (∀ o, NA (w.alloc o) g 0 l) := fun o => (unhide HN).heap (heap_alloc_old _ _ hgl)
    clear hx hn hd HRN
    go_enter Tryz.func41, Tryz.ntmps41
    go_wp2_with fail
    refine (unhide HLW _ _ (unhide HNX _)).mono ?_
    rintro e w2 ⟨hB2, vm, rfl, hown⟩
    obtain ⟨g2, cap2, y, rfl, ⟨q0, q1, q2, q3⟩, ⟨y0, y1, y2⟩, hfz, hg2, hfin⟩ := unhide HEND _ w2 vm ((Below.refl w.heap.size w).alloc (Nat.le_refl _) _) (by simp) hB2 (heap_alloc_new _ _) hown
    have HFIN := hide hfin
    clear hB2 hown hfin
    go_wp2_with fail
    go_ret2
    rw [unhide HR]
    exact unhide HFIN
  | false =>
    have HSU : Hid (∀ wx, NA wx g 0 l → Calls Tryz.prog 65 #[.slice (some ⟨g, 0, none⟩) l.length cap, .int .i64 (k : Int)] wx fun e w' => e = .returned (.int .i64 (subE l k : Int)) ∧ Below wx.heap.size wx w') := fun wx h => subtreeEnd_any l k g cap wx hl hkl' h
    have HNX : Hid (∀ o, NA (w.alloc o) g 0 l) := fun o => (unhide HN).heap (heap_alloc_old _ _ hgl)
    have HRZ : Hid (k + 1 < subE l k → renN l k false t = none) := fun h => by rw [renN, if_neg (by omega), if_pos ⟨rfl, h⟩]
    clear hx hn hd
    go_enter Tryz.func41, Tryz.ntmps41
    go_wp2_with fail
    refine (unhide HSU _ (unhide HNX _)).mono ?_
    rintro e w1 ⟨rfl, hB1⟩
    have hblk : w1.heap[w.heap.size]? = some (.cells #[.bool false, .string t, .int .i64 0] 51 (0, 0)) := (hB1.block _ (by simp)).trans (heap_alloc_new _ _)
    have hlt1 : w.heap.size < w1.heap.size := by have := hB1.size; simp at this; omega
    have HB1 : Hid (Below w.heap.size w w1) := ((Below.refl w.heap.size w).alloc (Nat.le_refl _) _).trans (hB1.mono (by simp))
    have hna1 := (unhide HN).below (unhide HB1) hgl
    obtain ⟨_, _, x2⟩ := hna1.cell0 (unhide HX)
    obtain ⟨p0, p1, p2, p3⟩ := nd_cells hblk
    have HBK := hide hblk
    have HN1 := hide hna1
    clear hB1 hblk hna1
    by_cases hz : k + 1 < subE l k
    · have HR := hide (unhide HRZ hz)
      clear HRN HRZ
      generalize subE l k = z at *
      go_wp2_with fail
      go_ret2
      rw [unhide HR]
      exact ⟨unhide HB1, rfl⟩
    · have HR := hide (unhide HRN (fun h => hz h.2))
      clear HRN HRZ
      have hne : g ≠ w.heap.size := by omega
      have HN2 : Hid (NA (w1.setCell ⟨w.heap.size, 2, none⟩ (.int .i64 x.depth)) g 0 l) := (unhide HN1).heap (heap_setCell_other _ _ _ _ hne)
      have HBK2 := hide (set3 (v := .int .i64 x.depth) (unhide HBK))
      have HB2 := hide (below_set (j := 2) (unhide HB1) (Nat.le_refl w.heap.size) (.int .i64 x.depth))
      have hlt2 : w.heap.size < (w1.setCell ⟨w.heap.size, 2, none⟩ (.int .i64 x.depth)).heap.size := by simp; omega
      have HLT2 := hide hlt2
      clear hlt2
      generalize subE l k = z at *
      go_wp2_with fail
      refine (unhide HLW _ _ (unhide HN2)).mono ?_
      rintro e w2 ⟨hB2, vm, rfl, hown⟩
      obtain ⟨g2, cap2, y, rfl, ⟨q0, q1, q2, q3⟩, ⟨y0, y1, y2⟩, hfz, hg2, hfin⟩ := unhide HEND _ w2 vm (unhide HB2) (unhide HLT2) hB2 (unhide HBK2) hown
      have HFIN := hide hfin
      clear hB2 hown hfin
      go_wp2_with fail
      go_ret2
      rw [unhide HR]
      exact unhide HFIN

end Go.Proofs.YtabafeckdclekaaGreatDoor
