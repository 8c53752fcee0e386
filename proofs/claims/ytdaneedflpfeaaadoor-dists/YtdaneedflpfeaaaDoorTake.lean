import Derived.Test.YtdaneedflpfeaaaDoorOpen
namespace Go.Proofs.YtdaneedflpfeaaaDoor
set_option maxRecDepth 100000
open Go.RowKit

theorem str_eq {a b : ByteArray} (h : a.toList = b.toList) : a = b := by
  rw [Go.ByteArray.toList_eq, Go.ByteArray.toList_eq] at h
  cases a; cases b; simp at h; rw [h]
theorem str_beq (a b : ByteArray) : (a.toList == b.toList) = decide (a = b) := by
  rw [Bool.eq_iff_iff]; simp only [beq_iff_eq, decide_eq_true_eq]
  exact ⟨str_eq, fun h => by rw [h]⟩

theorem PS.drewN {b : Nat} {tv : Value} {toks : List Tok} {w : World} {st : PSt} (h : PS b tv toks w st) (n : Nat) : PS b tv toks (w.drewN n) st :=
  ⟨h.nd, h.tok, h.tat, h.few, h.att, h.siz⟩
theorem belowDrewN {B : Nat} {a w : World} (h : Below B a w) (n : Nat) : Below B a (w.drewN n) := ⟨h.os, h.tape, h.output, h.size, h.block⟩
theorem app_blk2 {b : Nat} {w w0 w2 : World} {nv : Value} {n : Nat} {xs : List Value} {blk : Obj} (hown : w.ownsRow (b + 1) 69 3 nv n xs) (hblk : w.heap[b]? = some blk) (hlt : b < w.heap.size)
    (h0 : Below w.heap.size w w0) (hgrow : w0.grownBy w2 nv.ownBlock) : w2.heap[b]? = some blk ∧ Below b w w2 := by
  have hs := h0.size
  constructor
  · rw [hgrow.block b (by omega) (fun hk => by have := (hown.lt b hk.symm).1; omega), h0.block b hlt]; exact hblk
  · exact (h0.mono (Nat.le_of_lt hlt)).grown hgrow (by omega) (fun k hk => by have := (hown.lt k hk).1; omega)
theorem below_drewN' (b : Nat) (w : World) (n : Nat) : Below b w (w.drewN n) := ⟨rfl, rfl, rfl, Nat.le_refl _, fun _ _ => rfl⟩

set_option maxHeartbeats 1600000 in
theorem place_any (b : Nat) (tv : Value) (toks : List Tok) (w : World) (st : PSt) (h : PS b tv toks w st) :
    Calls Tryd.prog 25 #[.pointer (some ⟨b, 0, none⟩)] w fun e w' => e = .returned (.int .i64 (placeL toks st)) ∧ Below b w w' := by
  obtain ⟨nv, c0, c1, c2, c3, c4, hf, _, _⟩ := h.cells
  obtain ⟨g, cap, rfl, hgb⟩ := h.tat
  have hfew := h.few
  by_cases hlt : st.at_ < toks.length
  · obtain ⟨t, ht⟩ : ∃ t, toks[st.at_]? = some t := ⟨toks[st.at_], List.getElem?_eq_getElem hlt⟩
    obtain ⟨t0, t1, t2⟩ := h.tokCell rfl ht
    have HF : Hid (placeL toks st = t.place) := by show placeL toks st = _; simp [placeL, ht]
    have hlt' : (st.at_ : Int) < (toks.length : Int) := by omega
    clear ht h
    go_enter Tryd.func25, Tryd.ntmps25
    go_wp2_with fail
    go_quiet (fail)
    go_wp2_with fail
    go_quiet (fail)
    go_wp2_with fail
    go_ret
    exact ⟨ret_int (by rw [unhide HF]), ⟨rfl, rfl, rfl, Nat.le_refl _, fun _ _ => rfl⟩⟩
  · have HF : Hid (placeL toks st = 0) := by show placeL toks st = _; simp [placeL, List.getElem?_eq_none (Nat.le_of_not_lt hlt)]
    have hlt' : ¬ (st.at_ : Int) < (toks.length : Int) := by omega
    clear h
    go_enter Tryd.func25, Tryd.ntmps25
    go_wp2_with fail
    go_quiet (fail)
    go_wp2_with fail
    go_ret
    exact ⟨ret_int (by rw [unhide HF]; rfl), ⟨rfl, rfl, rfl, Nat.le_refl _, fun _ _ => rfl⟩⟩

set_option maxHeartbeats 1600000 in
theorem take_idle (b : Nat) (tv : Value) (toks : List Tok) (w : World) (st : PSt) (h : PS b tv toks w st) (hno : st.failed = true ∨ toks.length ≤ st.at_) :
    Calls Tryd.prog 62 #[.pointer (some ⟨b, 0, none⟩)] w fun e w' => e = .returned (.tuple #[]) ∧ PS b tv toks w' st ∧ Below b w w' := by
  obtain ⟨nv, c0, c1, c2, c3, c4, hf, _, _⟩ := h.cells
  obtain ⟨g, cap, rfl, hgb⟩ := h.tat
  have HP := hide h
  clear h
  cases hfl : st.failed with
  | true =>
    rw [hfl] at c2
    clear hno hfl
    go_enter Tryd.func62, Tryd.ntmps62
    go_wp2_with fail
    go_quiet (fail)
    go_wp2_with fail
    refine bodyPost_ret (results_none (by rfl) _ _ _) rfl ?_
    exact ⟨rfl, (unhide HP).drewN _, below_drewN' _ _ _⟩
  | false =>
    rw [hfl] at c2 hno
    have hge : (toks.length : Int) ≤ (st.at_ : Int) := by rcases hno with h | h; cases h; omega
    clear hno hfl
    go_enter Tryd.func62, Tryd.ntmps62
    go_wp2_with fail
    go_quiet (fail)
    go_wp2_with fail
    refine bodyPost_ret (results_none (by rfl) _ _ _) rfl ?_
    exact ⟨rfl, (unhide HP).drewN _, below_drewN' _ _ _⟩

theorem sz_take {st : PSt} {n : Nat} (i : Nat) (k : ByteArray) (h : sz st n) : sz { st with at_ := i, nodes := st.nodes ++ [⟨false, k, st.depth⟩] } (n + 1) := by
  have h' := h.mono (Nat.le_succ n)
  have := h.2.1; have := h.2.2.1; have := h.1
  refine ⟨by show (st.nodes ++ [_]).length ≤ _; rw [List.length_append]; show _ + 1 ≤ _; omega, h'.2.1, h'.2.2.1, fun x hx => ?_⟩
  rcases List.mem_append.1 hx with hx | hx
  · exact h'.2.2.2 x hx
  · simp at hx; subst hx; show -((n + 1 : Nat) : Int) ≤ st.depth ∧ st.depth ≤ ((n + 1 : Nat) : Int); omega

theorem take_fin {b : Nat} {tv : Value} {toks : List Tok} {w w2 : World} {st : PSt} {k : ByteArray} {nv : Value} {g cap : Nat} (h : PS b tv toks w st) (hs : sz st 999999) (ha : st.at_ + 1 ≤ toks.length)
    (hb2 : w2.heap[b]? = some (.cells #[tv, .int .i64 st.at_, .bool st.failed, nv, .int .i64 st.depth] 65 (0, 0))) (hbel : Below b w w2)
    (hown : w2.ownsRow (b + 1) 69 3 (.slice (some ⟨g, 0, none⟩) (st.nodes.length + 1) cap) (st.nodes.length + 1) (ndsCells st.nodes ++ [.bool false, .string k, .int .i64 st.depth])) :
    PS b tv toks ((w2.setCell ⟨b, 3, none⟩ (.slice (some ⟨g, 0, none⟩) (st.nodes.length + 1) cap)).setCell ⟨b, 1, none⟩ (.int .i64 (st.at_ + 1))) { st with at_ := st.at_ + 1, nodes := st.nodes ++ [⟨false, k, st.depth⟩] } ∧
      Below b w ((w2.setCell ⟨b, 3, none⟩ (.slice (some ⟨g, 0, none⟩) (st.nodes.length + 1) cap)).setCell ⟨b, 1, none⟩ (.int .i64 (st.at_ + 1))) := by
  have hbel3 := (hbel.setCell (p := ⟨b, 3, none⟩) (Nat.le_refl b) (.slice (some ⟨g, 0, none⟩) (st.nodes.length + 1) cap)).setCell (p := ⟨b, 1, none⟩) (Nat.le_refl b) (.int .i64 (st.at_ + 1))
  refine ⟨h.step hbel3 (.slice (some ⟨g, 0, none⟩) (st.nodes.length + 1) cap) ?_ ?_ ha (sz_take (st.at_ + 1) k hs), hbel3⟩
  · exact heap_setCell_same _ b 1 _ _ _ (heap_setCell_same _ b 3 _ _ _ hb2)
  · have := ownsRow_setCell_below (ownsRow_setCell_below hown (a := ⟨b, 3, none⟩) (by show b < b + 1; omega) (.slice (some ⟨g, 0, none⟩) (st.nodes.length + 1) cap)) (a := ⟨b, 1, none⟩) (by show b < b + 1; omega) (.int .i64 (st.at_ + 1))
    show World.ownsRow _ (b + 1) _ 3 _ (st.nodes ++ [(⟨false, k, st.depth⟩ : Nd)]).length (ndsCells (st.nodes ++ [(⟨false, k, st.depth⟩ : Nd)]))
    rw [ndsCells_snoc, List.length_append]
    exact this

set_option maxHeartbeats 1600000 in
theorem take_go (b : Nat) (tv : Value) (toks : List Tok) (w : World) (st : PSt) (t : Tok) (h : PS b tv toks w st) (hfl : st.failed = false) (ht : toks[st.at_]? = some t) (hs : sz st 999999) :
    Calls Tryd.prog 62 #[.pointer (some ⟨b, 0, none⟩)] w fun e w' => e = .returned (.tuple #[]) ∧ PS b tv toks w' { st with at_ := st.at_ + 1, nodes := st.nodes ++ [⟨false, t.text, st.depth⟩] } ∧ Below b w w' := by
  obtain ⟨nv, c0, c1, c2, c3, c4, hf, hown, hblk⟩ := h.cells
  obtain ⟨i0, hi, hz0, hz1, hz2⟩ := info_parts Tryd.infoNd
  obtain ⟨g0, cap0, rfl, hgb⟩ := h.tat
  obtain ⟨t0, t1, t2⟩ := h.tokCell rfl ht
  have hlt : st.at_ < toks.length := by
    rcases Nat.lt_or_ge st.at_ toks.length with h | h
    · exact h
    · rw [List.getElem?_eq_none h] at ht; cases ht
  have hlt' : (st.at_ : Int) < (toks.length : Int) := by omega
  have hfew := h.few
  have HP := hide h
  have HO := hide hown
  have HB := hide hblk
  have hlt2 := h.lt
  have hn := hs.1
  have HS := hide hs
  rw [hfl] at c2
  have ca : ∀ n o, ((w.drewN n).alloc o).cell? ⟨b, 3, none⟩ = some nv := fun n o => (World.cell?_alloc_past (w := w.drewN n) o b 3 hlt2).trans c3
  clear h hown hblk hfl ht hs
  go_enter Tryd.func62, Tryd.ntmps62
  go_wp2_with fail
  go_quiet (fail)
  go_wp2_with fail
  go_quiet (fail)
  go_wp2_with fail
  go_region_law
    (refine step_append_lies _ rfl (.tmp 34) (.tmp 41) 36 rfl (b + 1) 69 i0 (.agg #[.bool false, .string ⟨#[]⟩, .int .i64 0]) 3 32 Tryd.underlying36 hi hz0 hz1 hz2 rfl (by decide) nv st.nodes.length (ndsCells st.nodes) (by simp [Act.eval]) (by exact ((unhide HO).alloc _).drew) ⟨w.heap.size, 0, none⟩ 1 1 [.bool false, .string t.text, .int .i64 st.depth] (by simp [Act.eval]) rfl (nd_news _ _ _ (heap_alloc_new _ _)) (nd_one _ _ _) (by decide) (by unfold maxLen; omega) (by omega) (by show b + 1 ≤ (w.alloc _).heap.size; simp; omega) _ rfl ?_;
     intro g cap w2 hown2 hgrow _ _;
     obtain ⟨hb2, hbel2⟩ := app_blk2 (unhide HO) (unhide HB) hlt2 (by repeat (first | exact Below.refl _ _ | refine Below.drew ?_ | refine belowDrewN ?_ _ | refine Below.alloc ?_ (by first | exact Nat.le_refl _ | (simp; done)) _)) hgrow;
     have d1 := (cell_of_row w2 b 1 _ _ _ hb2).trans rfl;
     have d3 := (cell_of_row w2 b 3 _ _ _ hb2).trans rfl;
     have d4 := (cell_of_row w2 b 4 _ _ _ hb2).trans rfl;
     have df := fun j => frozen_of_row w2 b j _ _ hb2;
     have HO2 := hide hown2;
     have HB2 := hide hb2;
     have HL2 := hide hbel2;
     clear hown2 hgrow hb2 hbel2)
  all_goals go_wp2_with fail
  all_goals go_end0
  all_goals exact ⟨rfl, take_fin (unhide HP) (unhide HS) hlt (unhide HB2) (unhide HL2) (unhide HO2)⟩

theorem take_any (b : Nat) (tv : Value) (toks : List Tok) (w : World) (st : PSt) (h : PS b tv toks w st) (hs : sz st 999999) :
    Calls Tryd.prog 62 #[.pointer (some ⟨b, 0, none⟩)] w fun e w' => e = .returned (.tuple #[]) ∧ PS b tv toks w' (takeL toks st) ∧ Below b w w' := by
  cases hfl : st.failed with
  | true =>
    have : takeL toks st = st := by simp [takeL, hfl]
    rw [this]
    exact take_idle b tv toks w st h (.inl hfl)
  | false =>
    cases ht : toks[st.at_]? with
    | none =>
      have : takeL toks st = st := by simp [takeL, hfl, ht]
      rw [this]
      exact take_idle b tv toks w st h (.inr (by simpa using ht))
    | some t =>
      have : takeL toks st = { st with at_ := st.at_ + 1, nodes := st.nodes ++ [⟨false, t.text, st.depth⟩] } := by simp [takeL, hfl, ht]
      rw [this]
      exact take_go b tv toks w st t h hfl ht hs

set_option maxHeartbeats 800000 in
theorem need_any (b : Nat) (tv : Value) (toks : List Tok) (w : World) (st : PSt) (k : ByteArray) (h : PS b tv toks w st) (hs : sz st 999999) :
    Calls Tryd.prog 45 #[.pointer (some ⟨b, 0, none⟩), .string k] w fun e w' => e = .returned (.tuple #[]) ∧ PS b tv toks w' (needL toks k st) ∧ Below b w w' := by
  have hbq := str_beq (kindL toks st) k
  by_cases hk : kindL toks st = k
  · have HF : Hid (needL toks k st = takeL toks st) := by show needL toks k st = _; simp [needL, hk]
    rw [decide_eq_true hk] at hbq
    have HP := hide h
    have HS := hide hs
    clear h hk hs
    go_enter Tryd.func45, Tryd.ntmps45
    go_wp2_with (first
      | (go_at_call 43; refine (kind_any b tv toks _ st (unhide HP)).mono ?_; rintro e w1 ⟨rfl, hw⟩; have hw := hw.symm; subst hw)
      | (go_at_call 62; refine (take_any b tv toks _ st (unhide HP) (unhide HS)).mono ?_; rintro e w1 ⟨rfl, hP1, hB1⟩))
    go_end0
    rw [unhide HF]
    exact ⟨rfl, hP1, hB1⟩
  · have HF : Hid (needL toks k st = failL st) := by show needL toks k st = _; simp [needL, hk]
    rw [decide_eq_false hk] at hbq
    obtain ⟨nv, c0, c1, c2, c3, c4, hf, hown, hblk⟩ := h.cells
    have HP := hide h
    have HO := hide hown
    have HB := hide hblk
    clear h hk hown hblk hs
    go_enter Tryd.func45, Tryd.ntmps45
    go_wp2_with (first
      | (go_at_call 43; refine (kind_any b tv toks _ st (unhide HP)).mono ?_; rintro e w1 ⟨rfl, hw⟩; have hw := hw.symm; subst hw))
    go_end0
    rw [unhide HF]
    have hbel : Below b w (w.setCell ⟨b, 2, none⟩ (.bool true)) := (Below.refl b w).setCell (Nat.le_refl b) _
    refine ⟨rfl, (unhide HP).step hbel nv ?_ (ownsRow_setCell_below (unhide HO) (by show b < b + 1; omega) _) (unhide HP).att (unhide HP).siz, hbel⟩
    exact heap_setCell_same w b 2 _ _ _ (unhide HB)

end Go.Proofs.YtdaneedflpfeaaaDoor
