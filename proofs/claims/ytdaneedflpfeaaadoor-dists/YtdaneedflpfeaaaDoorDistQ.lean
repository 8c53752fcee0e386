import Derived.Test.YtdaneedflpfeaaaDoorDistL
import Derived.Test.YtdaneedflpfeaaaDoorDistI
namespace Go.Proofs.YtdaneedflpfeaaaDoor
set_option maxRecDepth 100000
open Go.RowKit

/-- The fewest steps between rows. -/
def dlR (l m : List Rw) : Nat := Dist.dl ((Dist.fo rdeep l).map labW) ((Dist.fo rdeep m).map labW)
theorem fo_node (k : ByteArray) (l : List Rw) : (Dist.fo rdeep (nodeR k l)).map labW = .cons (true, k) ((Dist.fo rdeep l).map labW) .nil := by
  have h := Dist.fo_cons rdeep ⟨0, true, k⟩ (l.map Rw.up) [] (fun y hy => by
    obtain ⟨x, _, rfl⟩ := List.mem_map.1 hy
    simp [rdeep, Rw.up]) (fun y hy => by simp at hy)
  rw [List.append_nil] at h
  unfold nodeR
  rw [h, Dist.fo_map rdeep rdeep Rw.up (fun x y => by simp [rdeep, Rw.up]) _ _ (Nat.le_refl _)]
  simp only [Dist.Fo.map, Dist.map_map, Dist.fo]
  rfl
theorem dQ_last (k : ByteArray) (l m : List Rw) : dQ (poR (nodeR k l)) (poR (nodeR k m)) l.length m.length = (dlR l m : Int) := by
  have hp : ∀ l : List Rw, (poR (nodeR k l))[l.length]? = some (⟨0, true, k⟩, 0) := fun l => by
    have h := Dist.fo_cons rdeep ⟨0, true, k⟩ (l.map Rw.up) [] (fun y hy => by
      obtain ⟨x, _, rfl⟩ := List.mem_map.1 hy
      simp [rdeep, Rw.up]) (fun y hy => by simp at hy)
    rw [List.append_nil] at h
    unfold poR nodeR
    rw [h, Dist.po, Dist.fo, Dist.po, List.getElem?_append_right (by rw [Dist.po_len, Dist.fo_size _ _ _ (Nat.le_refl _), List.length_map]; exact Nat.le_refl _), Dist.po_len, Dist.fo_size _ _ _ (Nat.le_refl _), List.length_map, Nat.sub_self]
    rfl
  have hf : ∀ l : List Rw, Dist.pf (poR (nodeR k l)) 0 (l.length + 1) = Dist.fo rdeep (nodeR k l) := fun l => by
    have := Dist.pf_po (Dist.fo rdeep (nodeR k l))
    rw [Dist.fo_size _ _ _ (Nat.le_refl _), nodeR_len] at this
    exact this
  unfold dQ
  rw [hp l, hp m]
  simp only
  unfold Dist.dP
  rw [hf, hf, fo_node, fo_node, Dist.dl_root]
  rfl
theorem poR_nest (l : List Rw) : Dist.Nest (poR l) := Dist.nest_po _
/-- A row of rows yet to be made. -/
def mkV (gt m k : Nat) (r : Nat) : Value := if r < k then .slice (some ⟨gt + 1 + r, 0, none⟩) m m else .slice none 0 0
structure Mk (w wr : World) (n m k : Nat) : Prop where
  size : wr.heap.size = w.heap.size + 1 + k
  outer : wr.rowIs w.heap.size 57 n (mkV w.heap.size m k)
  row : ∀ r, r < k → wr.rowIs (w.heap.size + 1 + r) 3 m (fun _ => .int .i64 0)
  bel : Below w.heap.size w wr
theorem Mk.start (w : World) (n m : Nat) : Mk w (w.alloc (.cells (madeCells #[.slice none 0 0] n) 57)) n m 0 :=
  ⟨by simp, (World.rowIs_made w (.slice none 0 0) n 57).congr fun i _ => by simp [mkV], fun r hr => by omega, (Below.refl _ _).alloc (Nat.le_refl _) _⟩
theorem Mk.next {w wr : World} {n m k : Nat} (h : Mk w wr n m k) : Mk w ((wr.alloc (.cells (madeCells #[.int .i64 0] m) 3)).setCell ⟨w.heap.size, k, none⟩ (.slice (some ⟨wr.heap.size, 0, none⟩) m m)) n m (k + 1) where
  size := by rw [Go.Deep.nblk_setCell]; simp; have := h.size; omega
  outer := ((h.outer.alloc _).set k _).congr fun i _ => by
    rw [h.size]
    unfold mkV
    by_cases e : i = k
    · simp [e]
    · by_cases q : i < k
      · rw [if_neg e, if_pos q, if_pos (by omega)]
      · rw [if_neg e, if_neg q, if_neg (by omega)]
  row r hr := by
    by_cases e : r = k
    · subst e
      have := World.rowIs_made wr (.int .i64 0) m 3
      rw [h.size] at this
      exact this.setOther (a := ⟨w.heap.size, r, none⟩) (by show w.heap.size + 1 + r ≠ w.heap.size; omega) _
    · exact ((h.row r (by omega)).alloc _).setOther (a := ⟨w.heap.size, k, none⟩) (by show w.heap.size + 1 + r ≠ w.heap.size; omega) _
  bel := (h.bel.alloc (by have := h.size; omega) _).setCell (p := ⟨w.heap.size, k, none⟩) (Nat.le_refl _) _
theorem Mk.tab {w wr : World} {n m : Nat} (h : Mk w wr n m n) : Tab wr w.heap.size w.heap.size n m (fun r => w.heap.size + 1 + r) (fun _ _ => 0) where
  base := Nat.le_refl _
  lt := by have := h.size; omega
  outer r hr := by rw [h.outer.cell hr, mkV, if_pos hr]
  row r hr := h.row r hr
  rb r hr := ⟨by omega, by omega⟩
  inj r s h1 h2 := by omega

end Go.Proofs.YtdaneedflpfeaaaDoor

namespace Go.Proofs.YtdaneedflpfeaaaDoor
set_option maxRecDepth 100000
open Go.RowKit

theorem sub_root (l : List Rw) : subE ((nodeR kProgram l).map (toNd 0)) 0 = l.length + 1 := by
  have hlen : ((nodeR kProgram l).map (toNd 0)).length = l.length + 1 := by rw [List.length_map, nodeR_len]
  have hs := subE_sub (l := (nodeR kProgram l).map (toNd 0)) (k := 0) (by omega)
  have h1 := hs.le
  have h2 := hs.lt
  rcases Nat.lt_or_ge (subE ((nodeR kProgram l).map (toNd 0)) 0) (l.length + 1) with q | q
  · rw [map_node] at *
    obtain ⟨e, he⟩ : ∃ e, subE ((⟨true, kProgram, 0⟩ : Nd) :: l.map (toNd (0 + 1))) 0 = e + 1 := ⟨_, (Nat.succ_pred_eq_of_pos h2).symm⟩
    rw [he] at hs q
    obtain ⟨r, hr⟩ : ∃ r, l[e]? = some r := ⟨_, List.getElem?_eq_getElem (by omega)⟩
    have := hs.stop ⟨true, kProgram, 0⟩ (toNd (0 + 1) r) rfl (by rw [List.getElem?_cons_succ, List.getElem?_map, hr]; rfl)
    simp [toNd] at this
    omega
  · omega
theorem fo_below (l : List Rw) : (Dist.fo Nd.depth (Dist.sg ((nodeR kProgram l).map (toNd 0)) (0 + 1) (l.length + 1))).map lab = (Dist.fo rdeep l).map labW := by
  have e : Dist.sg ((nodeR kProgram l).map (toNd 0)) (0 + 1) (l.length + 1) = l.map (toNd (0 + 1)) := by
    rw [map_node]
    unfold Dist.sg
    rw [List.take_of_length_le (by simp)]
    rfl
  rw [e, Dist.fo_map Nd.depth rdeep (toNd (0 + 1)) (fun x y => by simp [toNd, rdeep]) _ _ (Nat.le_refl _), Dist.map_map]
  rfl
theorem dB_rows (l m : List Rw) : dB ((nodeR kProgram l).map (toNd 0)) ((nodeR kProgram m).map (toNd 0)) 0 0 = (dlR l m : Int) := by
  unfold dB dN Dist.dS dlR
  rw [sub_root, sub_root, fo_below, fo_below]

end Go.Proofs.YtdaneedflpfeaaaDoor
