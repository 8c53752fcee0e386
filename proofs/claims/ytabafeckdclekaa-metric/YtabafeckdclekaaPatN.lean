import Derived.Test.YtabafeckdclekaaRead
import Derived.Test.YtabafeckdclekaaStr
namespace Go.Proofs.Ytabafeckdclekaa
set_option maxRecDepth 100000
open Go.RowKit

theorem cell_heap {w w' : World} {a : Addr} (h : w'.heap[a.block]? = w.heap[a.block]?) : w'.cell? a = w.cell? a := by
  unfold World.cell?; rw [h]
theorem ba_same {a b : ByteArray} (h : a.toList = b.toList) : a = b := by
  rw [Go.ByteArray.toList_eq, Go.ByteArray.toList_eq] at h
  exact ByteArray.ext (Array.toList_inj.mp h)
/-- Nodes that lie in a block, from a cell on. -/
structure NA (w : World) (g off : Nat) (l : List Nd) : Prop where
  lt : g < w.heap.size
  at_ : ∀ j u, (ndsCells l)[j]? = some u → w.cell? ⟨g, off + j, none⟩ = some u
theorem NA.below {w w' : World} {g off B : Nat} {l : List Nd} (h : NA w g off l) (hb : Below B w w') (hB : g < B) : NA w' g off l :=
  ⟨by have := hb.size; have := h.lt; omega, fun j u hu => (cell_heap (hb.block g hB)).trans (h.at_ j u hu)⟩
theorem NA.heap {w w' : World} {g off : Nat} {l : List Nd} (h : NA w g off l) (hb : w'.heap[g]? = w.heap[g]?) : NA w' g off l := by
  refine ⟨?_, fun j u hu => (cell_heap hb).trans (h.at_ j u hu)⟩
  have hl := h.lt
  rcases Nat.lt_or_ge g w'.heap.size with q | q
  · exact q
  · rw [Array.getElem?_eq_none q, Array.getElem?_eq_getElem hl] at hb; cases hb
theorem NA.cell {w : World} {g off : Nat} {l : List Nd} (h : NA w g off l) {i : Nat} {x : Nd} (hx : l[i]? = some x) :
    w.cell? ⟨g, off + i * 3, none⟩ = some (.bool x.inner) ∧ w.cell? ⟨g, off + i * 3 + 1, none⟩ = some (.string x.text) ∧ w.cell? ⟨g, off + i * 3 + 2, none⟩ = some (.int .i64 x.depth) := by
  refine ⟨h.at_ (i * 3) _ ?_, h.at_ (i * 3 + 1) _ ?_, h.at_ (i * 3 + 2) _ ?_⟩
  · have := ndsCells_get l i 0 (by omega); rw [Nat.add_zero] at this; rw [this, hx]; rfl
  · rw [ndsCells_get l i 1 (by omega), hx]; rfl
  · rw [ndsCells_get l i 2 (by omega), hx]; rfl
theorem NA.cell0 {w : World} {g : Nat} {l : List Nd} (h : NA w g 0 l) {i : Nat} {x : Nd} (hx : l[i]? = some x) :
    w.cell? ⟨g, i * 3, none⟩ = some (.bool x.inner) ∧ w.cell? ⟨g, i * 3 + 1, none⟩ = some (.string x.text) ∧ w.cell? ⟨g, i * 3 + 2, none⟩ = some (.int .i64 x.depth) := by
  have := h.cell hx
  simpa only [Nat.zero_add] using this
theorem ndsCells_split (l m : List Nd) : ndsCells (l ++ m) = ndsCells l ++ ndsCells m := by simp [ndsCells]
theorem NA.drop {w : World} {g off : Nat} {l : List Nd} (h : NA w g off l) (k : Nat) (hk : k ≤ l.length) : NA w g (off + k * 3) (l.drop k) :=
  ⟨h.lt, fun j u hu => by
    have := h.at_ (k * 3 + j) u (by
      rw [← List.take_append_drop k l, ndsCells_split, List.getElem?_append_right (by rw [ndsCells_len, List.length_take]; omega), ndsCells_len, List.length_take, show k * 3 + j - min k l.length * 3 = j by rw [Nat.min_eq_left hk]; omega]
      exact hu)
    rw [← Nat.add_assoc] at this
    exact this⟩
theorem NA.take {w : World} {g off : Nat} {l : List Nd} (h : NA w g off l) (k : Nat) : NA w g off (l.take k) :=
  ⟨h.lt, fun j u hu => h.at_ j u (by
    have hj : j < (ndsCells (l.take k)).length := by
      rcases Nat.lt_or_ge j (ndsCells (l.take k)).length with q | q
      · exact q
      · rw [List.getElem?_eq_none q] at hu; cases hu
    have e : ndsCells l = ndsCells (l.take k) ++ ndsCells (l.drop k) := by rw [← ndsCells_split, List.take_append_drop]
    rw [e, List.getElem?_append_left hj]
    exact hu)⟩
theorem NA.of_own {w : World} {base g cap n : Nat} {l : List Nd} (h : w.ownsRow base 68 3 (.slice (some ⟨g, 0, none⟩) n cap) l.length (ndsCells l)) (hg : g < w.heap.size) (hn : n = l.length) : NA w g 0 l :=
  ⟨hg, fun j u hu => by
    subst hn
    have hj : j < (ndsCells l).length := by
      rcases Nat.lt_or_ge j (ndsCells l).length with q | q
      · exact q
      · rw [List.getElem?_eq_none q] at hu; cases hu
    rw [ndsCells_len] at hj
    rw [Nat.zero_add, h.cellAt j hj]; exact hu⟩

/-- Where what stands deeper ends. -/
def goE (l : List Nd) (d : Int) (e : Nat) : Nat := if h : e < l.length then (if d < (l[e]).depth then goE l d (e + 1) else e) else e
  termination_by l.length - e
theorem goE_le (l : List Nd) (d : Int) (e : Nat) (h : e ≤ l.length) : e ≤ goE l d e ∧ goE l d e ≤ l.length := by
  induction e using goE.induct l d with
  | case1 e h1 h2 ih => rw [goE, dif_pos h1, if_pos h2]; have := ih (by omega); omega
  | case2 e h1 h2 => rw [goE, dif_pos h1, if_neg h2]; omega
  | case3 e h1 => rw [goE, dif_neg h1]; omega
def subE (l : List Nd) (k : Nat) : Nat := match l[k]? with | some x => goE l x.depth (k + 1) | none => k + 1
theorem subE_le {l : List Nd} {k : Nat} (h : k < l.length) : k + 1 ≤ subE l k ∧ subE l k ≤ l.length := by
  unfold subE
  rw [List.getElem?_eq_getElem h]
  exact goE_le l _ _ h

set_option maxHeartbeats 1600000 in
theorem subtreeEnd_any (l : List Nd) (k g cap : Nat) (w : World) (hl : l.length ≤ 1000000) (hk : k < l.length) (hn : NA w g 0 l) :
    Calls Try.prog 69 #[.slice (some ⟨g, 0, none⟩) l.length cap, .int .i64 (k : Int)] w fun e w' => e = .returned (.int .i64 (subE l k : Int)) ∧ Below w.heap.size w w' := by
  have HN := hide hn
  have hgl := hn.lt
  obtain ⟨y, hy⟩ : ∃ y, l[k]? = some y := ⟨_, List.getElem?_eq_getElem hk⟩
  have HS : Hid (subE l k = goE l y.depth (k + 1)) := by show subE l k = _; rw [subE, hy]
  have HY := hide hy
  clear hn hy
  go_enter Try.func69, Try.ntmps69
  go_wp2_with fail
  go_loopw [5] (fun i wr => ∃ e : Nat, k + 1 ≤ e ∧ e ≤ l.length ∧ i = .int .i64 e ∧ Hid (goE l y.depth e = goE l y.depth (k + 1)) ∧ Below w.heap.size w wr) (fun i _ => l.length - (intOf i).toNat)
  case atStart => exact ⟨k + 1, by omega, by omega, by go_num, rfl, Below.refl _ _⟩
  case round =>
    obtain ⟨e, he1, he2, rfl, HE, hB⟩ := hrel
    have hna := (unhide HN).below hB hgl
    obtain ⟨_, _, k2⟩ := hna.cell0 (unhide HY)
    have HB := hide hB
    by_cases hlt : e < l.length
    · have hx : l[e]? = some l[e] := List.getElem?_eq_getElem hlt
      obtain ⟨_, _, e2⟩ := hna.cell0 hx
      have HG := hide (goE.eq_1 l y.depth e)
      clear hna hB hx
      by_cases hd : y.depth < (l[e]).depth
      · have HE2 : Hid (goE l y.depth (e + 1) = goE l y.depth (k + 1)) := by show _ = _; rw [← unhide HE, unhide HG, dif_pos hlt, if_pos hd]
        clear HG HE
        generalize (l[e]'hlt) = x at *
        go_wp2_with fail
        go_quiet (fail)
        go_wp2_with fail
        go_roundw
        case rel => exact ⟨e + 1, by omega, by omega, by go_num, HE2, (unhide HB).trans (below_drewN' _ _ _)⟩
        case measure => simp [intOf]; omega
      · have HE2 : Hid (goE l y.depth (k + 1) = e) := by show _ = _; rw [← unhide HE, unhide HG, dif_pos hlt, if_neg hd]
        clear HG HE
        generalize (l[e]'hlt) = x at *
        go_wp2_with fail
        go_quiet (fail)
        go_wp2_with fail
        go_ret
        exact ⟨ret_int (by rw [unhide HS, unhide HE2]), (unhide HB).trans (below_drewN' _ _ _)⟩
    · have HE2 : Hid (goE l y.depth (k + 1) = e) := by show _ = _; rw [← unhide HE, goE, dif_neg hlt]
      clear hna hB
      go_wp2_with fail
      go_quiet (fail)
      go_wp2_with fail
      go_ret
      exact ⟨ret_int (by rw [unhide HS, unhide HE2]), (unhide HB).trans (below_drewN' _ _ _)⟩

end Go.Proofs.Ytabafeckdclekaa
