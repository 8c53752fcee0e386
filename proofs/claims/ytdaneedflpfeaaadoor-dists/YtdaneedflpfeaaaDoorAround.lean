import Derived.Test.YtdaneedflpfeaaaDoorTake
namespace Go.Proofs.YtdaneedflpfeaaaDoor
set_option maxRecDepth 100000
open Go.RowKit

def bump (n : Nd) : Nd := { n with depth := n.depth + 1 }
/-- What has been laid from a node on becomes the beginning of a new node. -/
def aroundL (i : Nat) (k : ByteArray) (st : PSt) : PSt :=
  { st with nodes := st.nodes.take i ++ [⟨true, k, st.depth⟩] ++ (st.nodes.drop i).map bump, depth := st.depth + 1 }
/-- The nodes in the middle of the shift. -/
def midL (N : List Nd) (X : Nd) (k : Nat) : List Nd := (N ++ [X]).take (k + 1) ++ (N.drop k).map bump
theorem midL_len (N : List Nd) (X : Nd) (k : Nat) (h : k ≤ N.length) : (midL N X k).length = N.length + 1 := by
  simp [midL, List.length_take]; omega
theorem midL_start (N : List Nd) (X : Nd) : midL N X N.length = N ++ [X] := by simp only [midL, List.drop_length, List.map_nil, List.append_nil]; exact List.take_of_length_le (by simp)
theorem midL_get (N : List Nd) (X : Nd) (m : Nat) (h : m < N.length) : (midL N X (m + 1))[m]? = N[m]? := by
  simp only [midL]
  rw [List.getElem?_append_left (by simp [List.length_take]; omega), List.getElem?_take, if_pos (by omega), List.getElem?_append_left h]
theorem midL_set (N : List Nd) (X : Nd) (m : Nat) (x : Nd) (h : N[m]? = some x) : (midL N X (m + 1)).set (m + 1) (bump x) = midL N X m := by
  have hm : m < N.length := by
    rcases Nat.lt_or_ge m N.length with g | g
    · exact g
    · rw [List.getElem?_eq_none g] at h; cases h
  have hx : N[m] = x := by rw [List.getElem?_eq_getElem hm] at h; exact Option.some.inj h
  simp only [midL]
  have e1 : (N ++ [X]).take (m + 1 + 1) = (N ++ [X]).take (m + 1) ++ [(N ++ [X])[m + 1]'(by simp; omega)] := by rw [List.take_succ_eq_append_getElem (by simp; omega)]
  have e2 : N.drop m = x :: N.drop (m + 1) := by rw [← hx]; exact List.drop_eq_getElem_cons hm
  rw [e1, e2, List.map_cons, List.append_assoc, List.set_append_right (m + 1) _ (by simp [List.length_take]; omega)]
  have : m + 1 - ((N ++ [X]).take (m + 1)).length = 0 := by simp [List.length_take]; omega
  rw [this]
  simp
theorem midL_end (N : List Nd) (X Y : Nd) (i : Nat) (h : i ≤ N.length) : (midL N X i).set i Y = N.take i ++ [Y] ++ (N.drop i).map bump := by
  simp only [midL]
  have e1 : (N ++ [X]).take (i + 1) = N.take i ++ [(N ++ [X])[i]'(by simp; omega)] := by
    rw [List.take_succ_eq_append_getElem (by simp; omega), List.take_append_of_le_length h]
  rw [e1, List.append_assoc, List.append_assoc, List.set_append_right i _ (by simp [List.length_take]; omega)]
  have : i - (N.take i).length = 0 := by simp [List.length_take]; omega
  rw [this]
  simp

theorem ndsCells_set (l : List Nd) (i : Nat) (x : Nd) (h : i < l.length) : ndsCells (l.set i x) = (((ndsCells l).set (i * 3) (.bool x.inner)).set (i * 3 + 1) (.string x.text)).set (i * 3 + 2) (.int .i64 x.depth) := by
  induction l generalizing i with
  | nil => simp at h
  | cons t l ih =>
    cases i with
    | zero => simp [ndsCells, ndCells]
    | succ i =>
      have e : ∀ j, (i + 1) * 3 + j = i * 3 + j + 3 := fun j => by omega
      have e0 : (i + 1) * 3 = i * 3 + 3 := by omega
      have ih' := ih i (by simpa using h)
      rw [e 1, e 2, e0]
      simp only [List.set_cons_succ, ndsCells, List.flatMap_cons] at ih' ⊢
      rw [ih']
      simp [ndCells]

theorem nd_at {b : Nat} {tv : Value} {toks : List Tok} {w : World} {st : PSt} (h : PS b tv toks w st) (hne : 0 < st.nodes.length) :
    ∃ g cap, w.ownsRow (b + 1) 69 3 (.slice (some ⟨g, 0, none⟩) st.nodes.length cap) st.nodes.length (ndsCells st.nodes) ∧ b < g ∧ g < w.heap.size ∧
      w.heap[b]? = some (.cells #[tv, .int .i64 st.at_, .bool st.failed, .slice (some ⟨g, 0, none⟩) st.nodes.length cap, .int .i64 st.depth] 65 (0, 0)) ∧
      (∀ i x, st.nodes[i]? = some x → w.cell? ⟨g, i * 3, none⟩ = some (.bool x.inner) ∧ w.cell? ⟨g, i * 3 + 1, none⟩ = some (.string x.text) ∧ w.cell? ⟨g, i * 3 + 2, none⟩ = some (.int .i64 x.depth)) ∧
      (∀ j, w.frozen? ⟨g, j, none⟩ = false) := by
  obtain ⟨nv, hb, hown⟩ := h.nd
  obtain ⟨g, cap, rfl, hg1, hg2⟩ := hown.form hne
  refine ⟨g, cap, hown, by omega, hg2, hb, ?_, fun j => hown.frozenAt j⟩
  intro i x hi
  have hlt : i < st.nodes.length := by
    rcases Nat.lt_or_ge i st.nodes.length with h | h
    · exact h
    · rw [List.getElem?_eq_none h] at hi; cases hi
  refine ⟨?_, ?_, ?_⟩
  · rw [hown.cellAt (i * 3) (by omega)]; have := ndsCells_get st.nodes i 0 (by omega); rw [Nat.add_zero] at this; rw [this, hi]; rfl
  · rw [hown.cellAt (i * 3 + 1) (by omega), ndsCells_get st.nodes i 1 (by omega), hi]; rfl
  · rw [hown.cellAt (i * 3 + 2) (by omega), ndsCells_get st.nodes i 2 (by omega), hi]; rfl

theorem PS.alloc {b : Nat} {tv : Value} {toks : List Tok} {w : World} {st : PSt} (h : PS b tv toks w st) (o : Obj) : PS b tv toks (w.alloc o) st := by
  have hlt := h.lt
  obtain ⟨nv, hb, hown⟩ := h.nd
  exact ⟨⟨nv, (Below.heap_alloc w o b hlt).trans hb, hown.alloc o⟩, h.tok.alloc o, h.tat, h.few, h.att, h.siz⟩
theorem PS.drew {b : Nat} {tv : Value} {toks : List Tok} {w : World} {st : PSt} (h : PS b tv toks w st) : PS b tv toks w.drew st :=
  ⟨h.nd, h.tok, h.tat, h.few, h.att, h.siz⟩

theorem nd_store {b : Nat} {tv : Value} {toks : List Tok} {w : World} {st : PSt} (h : PS b tv toks w st) {g cap : Nat}
    (hown : w.ownsRow (b + 1) 69 3 (.slice (some ⟨g, 0, none⟩) st.nodes.length cap) st.nodes.length (ndsCells st.nodes)) (hbg : b < g)
    (hblk : w.heap[b]? = some (.cells #[tv, .int .i64 st.at_, .bool st.failed, .slice (some ⟨g, 0, none⟩) st.nodes.length cap, .int .i64 st.depth] 65 (0, 0)))
    (i : Nat) (x : Nd) (hi : i < st.nodes.length) (hs : sz { st with nodes := st.nodes.set i x } 1000000) :
    PS b tv toks (((w.setCell ⟨g, i * 3, none⟩ (.bool x.inner)).setCell ⟨g, i * 3 + 1, none⟩ (.string x.text)).setCell ⟨g, i * 3 + 2, none⟩ (.int .i64 x.depth)) { st with nodes := st.nodes.set i x } ∧
      Below b w (((w.setCell ⟨g, i * 3, none⟩ (.bool x.inner)).setCell ⟨g, i * 3 + 1, none⟩ (.string x.text)).setCell ⟨g, i * 3 + 2, none⟩ (.int .i64 x.depth)) := by
  have h1 := (hown.stored (i * 3) (.bool x.inner)).1
  have h2 := (h1.stored (i * 3 + 1) (.string x.text)).1
  have h3 := (h2.stored (i * 3 + 2) (.int .i64 x.depth)).1
  have hbel := (((Below.refl b w).setCell (p := ⟨g, i * 3, none⟩) (Nat.le_of_lt hbg) (.bool x.inner)).setCell (p := ⟨g, i * 3 + 1, none⟩) (Nat.le_of_lt hbg) (.string x.text)).setCell (p := ⟨g, i * 3 + 2, none⟩) (Nat.le_of_lt hbg) (.int .i64 x.depth)
  refine ⟨h.step hbel (.slice (some ⟨g, 0, none⟩) st.nodes.length cap) ?_ ?_ h.att hs, hbel⟩
  · rw [Below.heap_setCell _ _ _ _ (show b ≠ g by omega), Below.heap_setCell _ _ _ _ (show b ≠ g by omega), Below.heap_setCell _ _ _ _ (show b ≠ g by omega)]
    exact hblk
  · show World.ownsRow _ _ _ 3 _ (st.nodes.set i x).length (ndsCells (st.nodes.set i x))
    rw [ndsCells_set _ _ _ hi, List.length_set]
    exact h3

theorem midL_mem {N : List Nd} {X x : Nd} {k : Nat} (h : x ∈ midL N X k) : x ∈ N ∨ x = X ∨ ∃ y ∈ N, x = bump y := by
  rcases List.mem_append.1 h with h | h
  · rcases List.mem_append.1 (List.mem_of_mem_take h) with h | h
    · exact .inl h
    · exact .inr (.inl (by simpa using h))
  · obtain ⟨y, hy, rfl⟩ := List.mem_map.1 h
    exact .inr (.inr ⟨y, List.mem_of_mem_drop hy, rfl⟩)
theorem sz_mid {st : PSt} {n : Nat} (h : sz st n) (kd : ByteArray) (k : Nat) (hk : k ≤ st.nodes.length) : sz { openL kd st with nodes := midL st.nodes ⟨true, kd, st.depth⟩ k } (n + 1) := by
  have ho := sz_open kd h
  have h1 := h.1; have h2 := h.2.1; have h3 := h.2.2.1
  refine ⟨by show (midL _ _ k).length ≤ _; rw [midL_len _ _ _ hk]; omega, ho.2.1, ho.2.2.1, fun x hx => ?_⟩
  rcases midL_mem hx with hx | rfl | ⟨y, hy, rfl⟩
  · have := h.2.2.2 x hx; omega
  · show -((n + 1 : Nat) : Int) ≤ st.depth ∧ st.depth ≤ ((n + 1 : Nat) : Int); omega
  · have := h.2.2.2 y hy; show -((n + 1 : Nat) : Int) ≤ y.depth + 1 ∧ y.depth + 1 ≤ ((n + 1 : Nat) : Int); omega
theorem sz_around {st : PSt} {n : Nat} (h : sz st n) (kd : ByteArray) (i : Nat) (hi : i ≤ st.nodes.length) : sz (aroundL i kd st) (n + 1) := by
  have ho := sz_open kd h
  have h1 := h.1; have h2 := h.2.1; have h3 := h.2.2.1
  refine ⟨by simp [aroundL, List.length_take]; omega, ho.2.1, ho.2.2.1, fun x hx => ?_⟩
  simp only [aroundL, List.mem_append, List.mem_singleton, List.mem_map] at hx
  rcases hx with (hx | rfl) | ⟨y, hy, rfl⟩
  · have := h.2.2.2 x (List.mem_of_mem_take hx); omega
  · show -((n + 1 : Nat) : Int) ≤ st.depth ∧ st.depth ≤ ((n + 1 : Nat) : Int); omega
  · have := h.2.2.2 y (List.mem_of_mem_drop hy); show -((n + 1 : Nat) : Int) ≤ y.depth + 1 ∧ y.depth + 1 ≤ ((n + 1 : Nat) : Int); omega

set_option maxHeartbeats 3200000 in
theorem openAround_any (b : Nat) (tv : Value) (toks : List Tok) (w : World) (st : PSt) (f : Int) (kd : ByteArray) (h : PS b tv toks w st) (hf0 : 0 ≤ f) (hfn : f ≤ st.nodes.length) (hs : sz st 999999) :
    Calls Tryd.prog 93 #[.pointer (some ⟨b, 0, none⟩), .int .i64 f, .string kd] w fun e w' => e = .returned (.tuple #[]) ∧ PS b tv toks w' (aroundL f.toNat kd st) ∧ Below b w w' := by
  obtain ⟨i, rfl⟩ := Int.eq_ofNat_of_zero_le hf0
  rw [Int.toNat_natCast]
  have hin : i ≤ st.nodes.length := by omega
  have HP := hide h
  have HS := hide hs
  have hn := hs.1
  have hd1 := hs.2.1
  have hd2 := hs.2.2.1
  clear h hf0 hfn hs
  go_enter Tryd.func93, Tryd.ntmps93
  go_wp2_with (first
    | (go_at_call 42; refine (open_any b tv toks _ st kd (unhide HP) (unhide HS)).mono ?_; rintro e w1 ⟨rfl, hP1, hB1⟩; obtain ⟨nv1, e0, e1, e2, e3, e4, ef, eo, eb⟩ := hP1.cells; obtain ⟨g1, cap1, hv1, _, _⟩ := eo.form (by simp [openL]); subst hv1; rw [show (openL kd st).nodes.length = st.nodes.length + 1 from by simp [openL]] at e3; have HP1 := hide hP1; have HB1 := hide hB1; clear hP1 hB1 eo eb))
  go_loopw [7, 8] (fun kv _ wr => ∃ k : Nat, i ≤ k ∧ k ≤ st.nodes.length ∧ kv = .int .i64 k ∧ PS b tv toks wr { openL kd st with nodes := midL st.nodes ⟨true, kd, st.depth⟩ k } ∧ Below b w wr) (fun kv _ _ => (intOf kv).toNat)
  case atStart => exact ⟨st.nodes.length, hin, Nat.le_refl _, by go_num, by rw [midL_start]; exact unhide HP1, unhide HB1⟩
  case round =>
    clear e0 e1 e2 e3 e4 ef HP1 HB1
    obtain ⟨k, hk1, hk2, rfl, hPk, hBk⟩ := hrel
    have hlen : (midL st.nodes ⟨true, kd, st.depth⟩ k).length = st.nodes.length + 1 := midL_len _ _ _ hk2
    obtain ⟨g, cap, hown, hbg, hgs, hblk, hcell, hfz⟩ := nd_at hPk (by show 0 < (midL _ _ k).length; omega)
    have c3 : wr.cell? ⟨b, 3, none⟩ = some (.slice (some ⟨g, 0, none⟩) (st.nodes.length + 1) cap) := by rw [cell_of_row wr b 3 _ _ _ hblk]; show some (Value.slice _ (midL st.nodes ⟨true, kd, st.depth⟩ k).length cap) = _; rw [hlen]
    by_cases hlt : i < k
    · obtain ⟨m, rfl⟩ : ∃ m, k = m + 1 := ⟨k - 1, by omega⟩
      obtain ⟨x, hx⟩ : ∃ x, st.nodes[m]? = some x := ⟨st.nodes[m]'(by omega), List.getElem?_eq_getElem (by omega)⟩
      obtain ⟨y, hy⟩ : ∃ y, (midL st.nodes ⟨true, kd, st.depth⟩ (m + 1))[m + 1]? = some y := ⟨_, List.getElem?_eq_getElem (by omega)⟩
      obtain ⟨x0, x1, x2⟩ := hcell m x ((midL_get _ _ _ (by omega)).trans hx)
      obtain ⟨y0, y1, y2⟩ := hcell (m + 1) y hy
      have hxd := (unhide HS).2.2.2 x (List.mem_of_getElem? hx)
      have hbs : b < wr.heap.size := by omega
      have HX := hide hx
      have HPk := hide hPk
      have HBk := hide hBk
      have HO := hide hown
      have HBl := hide hblk
      have HL := hide hlen
      clear hx hy hPk hBk hown hblk hcell hlen
      go_wp2_with fail
      go_region
      go_wp2_with fail
      have hset := midL_set st.nodes ⟨true, kd, st.depth⟩ m x (unhide HX)
      have hst := nd_store (unhide HPk) (unhide HO) hbg (unhide HBl) (m + 1) (bump x) (by show m + 1 < (midL _ _ _).length; rw [unhide HL]; omega) (by show sz { openL kd st with nodes := (midL st.nodes _ (m + 1)).set (m + 1) (bump x) } _; rw [hset]; exact sz_mid (unhide HS) kd m (by omega))
      rw [show ({ openL kd st with nodes := (midL st.nodes ⟨true, kd, st.depth⟩ (m + 1)).set (m + 1) (bump x) } : PSt) = { openL kd st with nodes := midL st.nodes ⟨true, kd, st.depth⟩ m } from by rw [hset]] at hst
      go_roundw
      case rel => exact ⟨m, by omega, by omega, rfl, (hst.1.alloc _).drew, (((unhide HBk).trans hst.2).alloc (by have := hst.1.lt; omega) _).drew⟩
      case measure => simp [intOf]
    · have hki : k = i := by omega
      subst hki
      obtain ⟨y, hy⟩ : ∃ y, (midL st.nodes ⟨true, kd, st.depth⟩ k)[k]? = some y := ⟨_, List.getElem?_eq_getElem (by omega)⟩
      obtain ⟨y0, y1, y2⟩ := hcell k y hy
      have c4 : wr.cell? ⟨b, 4, none⟩ = some (.int .i64 (st.depth + 1)) := by rw [cell_of_row wr b 4 _ _ _ hblk]; rfl
      have HPk := hide hPk
      have HBk := hide hBk
      have HO := hide hown
      have HBl := hide hblk
      have HL := hide hlen
      clear hy hPk hBk hown hblk hcell hlen
      go_wp2_with fail
      go_region
      go_wp2_with fail
      go_end0
      have hset := midL_end st.nodes ⟨true, kd, st.depth⟩ ⟨true, kd, st.depth⟩ k hk2
      have hst := nd_store (unhide HPk) (unhide HO) hbg (unhide HBl) k ⟨true, kd, st.depth⟩ (by show k < (midL _ _ _).length; rw [unhide HL]; omega) (by show sz { openL kd st with nodes := (midL st.nodes _ k).set k _ } _; rw [hset]; exact sz_around (unhide HS) kd k hk2)
      rw [show ({ openL kd st with nodes := (midL st.nodes ⟨true, kd, st.depth⟩ k).set k ⟨true, kd, st.depth⟩ } : PSt) = aroundL k kd st from by rw [hset]; rfl] at hst
      exact ⟨rfl, hst.1.drew, ((unhide HBk).trans hst.2).drew⟩

end Go.Proofs.YtdaneedflpfeaaaDoor
