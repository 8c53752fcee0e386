import Derived.Test.YtdaneedflpfeaabGreatDoorToks
import Derived.Deep.RegionHeld3
import Derived.Deep.RegionLaw
namespace Go.Proofs.YtdaneedflpfeaabGreatDoor
set_option maxRecDepth 100000
open Go.RowKit

structure Nd where
  inner : Bool
  text : ByteArray
  depth : Int
def ndCells (n : Nd) : List Value := [.bool n.inner, .string n.text, .int .i64 n.depth]
def ndsCells (l : List Nd) : List Value := l.flatMap ndCells
theorem ndsCells_len (l : List Nd) : (ndsCells l).length = l.length * 3 := by
  induction l with
  | nil => rfl
  | cons t l ih => simp only [ndsCells, List.flatMap_cons, List.length_append, List.length_cons] at *; rw [ih]; simp [ndCells]; omega
theorem ndsCells_snoc (l : List Nd) (t : Nd) : ndsCells (l ++ [t]) = ndsCells l ++ ndCells t := by simp [ndsCells]

/-- The parser's state. -/
structure PSt where
  at_ : Nat
  failed : Bool
  nodes : List Nd
  depth : Int

/-- How great a state is. -/
def sz (st : PSt) (n : Nat) : Prop := st.nodes.length ≤ n ∧ -(n : Int) ≤ st.depth ∧ st.depth ≤ n ∧ ∀ x ∈ st.nodes, -(n : Int) ≤ x.depth ∧ x.depth ≤ n
theorem sz.mono {st : PSt} {n m : Nat} (h : sz st n) (hm : n ≤ m) : sz st m :=
  ⟨by have := h.1; omega, by have := h.2.1; omega, by have := h.2.2.1; omega, fun x hx => by have := h.2.2.2 x hx; omega⟩

/-- The parser's memory: its block b, the tokens' row below it, the nodes' row above it. -/
structure PS (b : Nat) (tv : Value) (toks : List Tok) (w : World) (st : PSt) : Prop where
  nd : ∃ nv, w.heap[b]? = some (.cells #[tv, .int .i64 st.at_, .bool st.failed, nv, .int .i64 st.depth] 50 (0, 0)) ∧ w.ownsRow (b + 1) 54 3 nv st.nodes.length (ndsCells st.nodes)
  tok : w.ownsRow 0 75 3 tv toks.length (toksCells toks)
  tat : ∃ g cap, tv = .slice (some ⟨g, 0, none⟩) toks.length cap ∧ g < b
  few : toks.length ≤ 1000
  att : st.at_ ≤ toks.length
  siz : sz st 1000000

theorem toksCells_get (l : List Tok) (i j : Nat) (hj : j < 3) : (toksCells l)[i * 3 + j]? = l[i]?.bind fun t => (tokCells t)[j]? := by
  induction l generalizing i with
  | nil => simp [toksCells]
  | cons t l ih =>
    cases i with
    | zero =>
      simp only [toksCells, List.flatMap_cons, Nat.zero_mul, Nat.zero_add, List.getElem?_cons_zero, Option.bind_some]
      rw [List.getElem?_append_left (by simp [tokCells]; omega)]
    | succ i =>
      have : (i + 1) * 3 + j = 3 + (i * 3 + j) := by omega
      rw [this]
      simp only [toksCells, List.flatMap_cons, List.getElem?_cons_succ]
      rw [List.getElem?_append_right (by simp [tokCells])]
      simp only [tokCells, List.length_cons, List.length_nil, Nat.add_sub_cancel_left]
      exact ih i
theorem ndsCells_get (l : List Nd) (i j : Nat) (hj : j < 3) : (ndsCells l)[i * 3 + j]? = l[i]?.bind fun t => (ndCells t)[j]? := by
  induction l generalizing i with
  | nil => simp [ndsCells]
  | cons t l ih =>
    cases i with
    | zero =>
      simp only [ndsCells, List.flatMap_cons, Nat.zero_mul, Nat.zero_add, List.getElem?_cons_zero, Option.bind_some]
      rw [List.getElem?_append_left (by simp [ndCells]; omega)]
    | succ i =>
      have : (i + 1) * 3 + j = 3 + (i * 3 + j) := by omega
      rw [this]
      simp only [ndsCells, List.flatMap_cons, List.getElem?_cons_succ]
      rw [List.getElem?_append_right (by simp [ndCells])]
      simp only [ndCells, List.length_cons, List.length_nil, Nat.add_sub_cancel_left]
      exact ih i

section
variable {b : Nat} {tv : Value} {toks : List Tok} {w : World} {st : PSt}
theorem PS.lt (h : PS b tv toks w st) : b < w.heap.size := by
  obtain ⟨nv, hb, _⟩ := h.nd
  rcases Nat.lt_or_ge b w.heap.size with hlt | hge
  · exact hlt
  · rw [Array.getElem?_eq_none hge] at hb; cases hb
/-- The cells of the parser. -/
theorem PS.cells (h : PS b tv toks w st) : ∃ nv, w.cell? ⟨b, 0, none⟩ = some tv ∧ w.cell? ⟨b, 1, none⟩ = some (.int .i64 st.at_) ∧ w.cell? ⟨b, 2, none⟩ = some (.bool st.failed) ∧ w.cell? ⟨b, 3, none⟩ = some nv ∧ w.cell? ⟨b, 4, none⟩ = some (.int .i64 st.depth) ∧
    (∀ j, w.frozen? ⟨b, j, none⟩ = false) ∧ w.ownsRow (b + 1) 54 3 nv st.nodes.length (ndsCells st.nodes) ∧ w.heap[b]? = some (.cells #[tv, .int .i64 st.at_, .bool st.failed, nv, .int .i64 st.depth] 50 (0, 0)) := by
  obtain ⟨nv, hb, hown⟩ := h.nd
  refine ⟨nv, ?_, ?_, ?_, ?_, ?_, fun j => frozen_of_row w b j _ _ hb, hown, hb⟩
  all_goals (rw [cell_of_row w b _ _ _ _ hb]; rfl)
/-- A token's cells. -/
theorem PS.tokCell (h : PS b tv toks w st) {g cap : Nat} (hg : tv = .slice (some ⟨g, 0, none⟩) toks.length cap) {i : Nat} {t : Tok} (hi : toks[i]? = some t) :
    w.cell? ⟨g, i * 3, none⟩ = some (.string t.kind) ∧ w.cell? ⟨g, i * 3 + 1, none⟩ = some (.string t.text) ∧ w.cell? ⟨g, i * 3 + 2, none⟩ = some (.int .i64 t.place) := by
  have hlt : i < toks.length := by
    rcases Nat.lt_or_ge i toks.length with h | h
    · exact h
    · rw [List.getElem?_eq_none h] at hi; cases hi
  have ho := h.tok
  rw [hg] at ho
  refine ⟨?_, ?_, ?_⟩
  · rw [ho.cellAt (i * 3) (by omega)]; have := toksCells_get toks i 0 (by omega); rw [Nat.add_zero] at this; rw [this, hi]; rfl
  · rw [ho.cellAt (i * 3 + 1) (by omega), toksCells_get toks i 1 (by omega), hi]; rfl
  · rw [ho.cellAt (i * 3 + 2) (by omega), toksCells_get toks i 2 (by omega), hi]; rfl
end

def kindAtL (toks : List Tok) (st : PSt) (i : Nat) : ByteArray := if st.failed then kNone else match toks[i]? with | none => kNone | some t => t.kind
def kindL (toks : List Tok) (st : PSt) : ByteArray := kindAtL toks st st.at_

set_option maxHeartbeats 800000 in
theorem kindAt_any (b : Nat) (tv : Value) (toks : List Tok) (w : World) (st : PSt) (h : PS b tv toks w st) (i : Int) (h0 : 0 ≤ i) :
    Calls Tryz.prog 61 #[.pointer (some ⟨b, 0, none⟩), .int .i64 i] w fun e w' => e = .returned (.string (kindAtL toks st i.toNat)) ∧ w' = w := by
  obtain ⟨k, rfl⟩ := Int.eq_ofNat_of_zero_le h0
  rw [Int.toNat_natCast]
  obtain ⟨nv, c0, c1, c2, c3, c4, hf, _, _⟩ := h.cells
  obtain ⟨g, cap, rfl, hgb⟩ := h.tat
  have hfew := h.few
  cases hfl : st.failed with
  | true =>
    have HF : Hid (kindAtL toks st k = kNone) := by show kindAtL toks st k = _; simp [kindAtL, hfl]
    rw [hfl] at c2
    clear hfl
    go_enter Tryz.func61, Tryz.ntmps61
    go_wp2_with fail
    go_ret
    exact ⟨ret_str (unhide HF).symm, rfl⟩
  | false =>
    rw [hfl] at c2
    by_cases hlt : k < toks.length
    · obtain ⟨t, ht⟩ : ∃ t, toks[k]? = some t := ⟨toks[k], List.getElem?_eq_getElem hlt⟩
      obtain ⟨t0, t1, t2⟩ := h.tokCell rfl ht
      have HF : Hid (kindAtL toks st k = t.kind) := by show kindAtL toks st k = _; simp [kindAtL, hfl, ht]
      have HI : Hid (k < toks.length) := hlt
      have hlt' : (k : Int) < (toks.length : Int) := by omega
      clear hfl ht
      go_enter Tryz.func61, Tryz.ntmps61
      go_wp2_with fail
      go_ret
      exact ⟨ret_str (unhide HF).symm, rfl⟩
    · have HF : Hid (kindAtL toks st k = kNone) := by show kindAtL toks st k = _; simp [kindAtL, hfl, List.getElem?_eq_none (Nat.le_of_not_lt hlt)]
      clear hfl
      go_enter Tryz.func61, Tryz.ntmps61
      go_wp2_with fail
      go_ret
      exact ⟨ret_str (unhide HF).symm, rfl⟩

theorem kind_any (b : Nat) (tv : Value) (toks : List Tok) (w : World) (st : PSt) (h : PS b tv toks w st) :
    Calls Tryz.prog 35 #[.pointer (some ⟨b, 0, none⟩)] w fun e w' => e = .returned (.string (kindL toks st)) ∧ w' = w := by
  obtain ⟨nv, c0, c1, c2, c3, c4, hf, _, _⟩ := h.cells
  go_enter Tryz.func35, Tryz.ntmps35
  go_wp2_with (go_at_call 61; refine (kindAt_any b tv toks _ st h _ (by omega)).mono ?_; rintro e w1 ⟨rfl, hw⟩; have hw := hw.symm; subst hw)
  go_ret
  exact ⟨rfl, rfl⟩

end Go.Proofs.YtdaneedflpfeaabGreatDoor

namespace Go.Proofs.YtdaneedflpfeaabGreatDoor
set_option maxRecDepth 100000
open Go.RowKit

section
variable {b : Nat} {tv : Value} {toks : List Tok} {w w' : World} {st st' : PSt}
theorem tok_keep {g cap n : Nat} {xs : List Value} (h : w.ownsRow 0 75 3 (.slice (some ⟨g, 0, none⟩) n cap) n xs) (hb : w'.heap[g]? = w.heap[g]?) : w'.ownsRow 0 75 3 (.slice (some ⟨g, 0, none⟩) n cap) n xs := by
  refine ⟨h.1, ?_⟩
  rcases h.2 with h2 | ⟨g', cap', cur, hv, h3, h4, h5⟩
  · exact .inl h2
  · refine .inr ⟨g', cap', cur, hv, h3, ?_, h5⟩
    simp only [Value.slice.injEq, Option.some.injEq, Addr.mk.injEq, and_true, true_and] at hv
    obtain ⟨rfl, rfl⟩ := hv
    rw [hb]; exact h4
theorem PS.step (h : PS b tv toks w st) (hb : Below b w w') (nv : Value) (hblk : w'.heap[b]? = some (.cells #[tv, .int .i64 st'.at_, .bool st'.failed, nv, .int .i64 st'.depth] 50 (0, 0)))
    (hown : w'.ownsRow (b + 1) 54 3 nv st'.nodes.length (ndsCells st'.nodes)) (ha : st'.at_ ≤ toks.length) (hn : sz st' 1000000) : PS b tv toks w' st' := by
  obtain ⟨g, cap, hv, hg⟩ := h.tat
  refine ⟨⟨nv, hblk, hown⟩, ?_, ⟨g, cap, hv, hg⟩, h.few, ha, hn⟩
  have := h.tok
  rw [hv] at this ⊢
  exact tok_keep this (hb.block g hg)
end

def placeL (toks : List Tok) (st : PSt) : Nat := match toks[st.at_]? with | none => 0 | some t => t.place
def closeL (st : PSt) : PSt := { st with depth := st.depth - 1 }
def failL (st : PSt) : PSt := { st with failed := true }
def openL (k : ByteArray) (st : PSt) : PSt := { st with nodes := st.nodes ++ [⟨true, k, st.depth⟩], depth := st.depth + 1 }
def takeL (toks : List Tok) (st : PSt) : PSt :=
  if st.failed then st else match toks[st.at_]? with | none => st | some t => { st with at_ := st.at_ + 1, nodes := st.nodes ++ [⟨false, t.text, st.depth⟩] }
def needL (toks : List Tok) (k : ByteArray) (st : PSt) : PSt := if kindL toks st = k then takeL toks st else failL st

theorem sz_close {st : PSt} {n : Nat} (h : sz st n) : sz (closeL st) (n + 1) := by
  have h' := h.mono (Nat.le_succ n)
  have := h.2.1
  exact ⟨h'.1, by show -((n + 1 : Nat) : Int) ≤ st.depth - 1; omega, by show st.depth - 1 ≤ ((n + 1 : Nat) : Int); have := h.2.2.1; omega, h'.2.2.2⟩
theorem sz_open {st : PSt} {n : Nat} (k : ByteArray) (h : sz st n) : sz (openL k st) (n + 1) := by
  have h' := h.mono (Nat.le_succ n)
  have := h.2.1; have := h.2.2.1; have := h.1
  refine ⟨by show (st.nodes ++ [_]).length ≤ _; rw [List.length_append]; show _ + 1 ≤ _; omega, by show -((n + 1 : Nat) : Int) ≤ st.depth + 1; omega, by show st.depth + 1 ≤ ((n + 1 : Nat) : Int); omega, fun x hx => ?_⟩
  rcases List.mem_append.1 hx with hx | hx
  · exact h'.2.2.2 x hx
  · simp at hx; subst hx; show -((n + 1 : Nat) : Int) ≤ st.depth ∧ st.depth ≤ ((n + 1 : Nat) : Int); omega

theorem close_any (b : Nat) (tv : Value) (toks : List Tok) (w : World) (st : PSt) (h : PS b tv toks w st) (hs : sz st 999999) :
    Calls Tryz.prog 38 #[.pointer (some ⟨b, 0, none⟩)] w fun e w' => e = .returned (.tuple #[]) ∧ PS b tv toks w' (closeL st) ∧ Below b w w' := by
  obtain ⟨nv, c0, c1, c2, c3, c4, hf, hown, hblk⟩ := h.cells
  have HP := hide h
  have HO := hide hown
  have HB := hide hblk
  have hd1 := hs.2.1
  have hd2 := hs.2.2.1
  have HS := hide (sz_close hs)
  clear h hown hblk hs
  go_enter Tryz.func38, Tryz.ntmps38
  go_wp2_with fail
  go_end0
  have hbel : Below b w (w.setCell ⟨b, 4, none⟩ (.int .i64 (st.depth - 1))) := (Below.refl b w).setCell (Nat.le_refl b) _
  refine ⟨rfl, (unhide HP).step hbel nv ?_ (ownsRow_setCell_below (unhide HO) (by show b < b + 1; omega) _) (unhide HP).att (unhide HS), hbel⟩
  exact heap_setCell_same w b 4 _ _ _ (unhide HB)

theorem Tryz.infoNd : (Tryz.prog.info? 54).map (fun i => (i.zero, i.size, i.bytes)) = some (some (.agg #[.bool false, .string ⟨#[]⟩, .int .i64 0]), 3, 32) := by kernel_rfl
theorem nd_news {w : World} {B : Nat} {T : TypeId} (k : Bool) (x : ByteArray) (p : Int) (hb : w.heap[B]? = some (.cells #[.bool k, .string x, .int .i64 p] T (0, 0))) :
    ∀ j u, [Value.bool k, .string x, .int .i64 p][j]? = some u → w.cell? ((⟨B, 0, none⟩ : Addr).add j) = some u := World.news_of_block hb
theorem nd_one (k : Bool) (x : ByteArray) (p : Int) : ∀ u ∈ [Value.bool k, .string x, .int .i64 p], u.oneCell' = true := by
  intro u hu; simp at hu; rcases hu with rfl | rfl | rfl <;> rfl

theorem app_blk {b : Nat} {w w2 : World} {nv : Value} {n : Nat} {xs : List Value} {o : Obj} {blk : Obj} (hown : w.ownsRow (b + 1) 54 3 nv n xs) (hblk : w.heap[b]? = some blk) (hlt : b < w.heap.size)
    (hgrow : (w.alloc o).drew.grownBy w2 nv.ownBlock) : w2.heap[b]? = some blk ∧ Below b w w2 := by
  constructor
  · rw [hgrow.block b (by show b < (w.alloc o).heap.size; simp; omega) (fun hk => by have := (hown.lt b hk.symm).1; omega)]
    show (w.alloc o).heap[b]? = _
    rw [Below.heap_alloc _ _ _ hlt]; exact hblk
  · exact (((Below.refl b w).alloc (Nat.le_of_lt hlt) o).drew).grown hgrow (by show b ≤ (w.alloc o).heap.size; simp; omega) (fun k hk => by have := (hown.lt k hk).1; omega)

theorem open_fin {b : Nat} {tv : Value} {toks : List Tok} {w w2 : World} {st : PSt} {k : ByteArray} {nv : Value} {g cap : Nat} (h : PS b tv toks w st) (hs : sz st 999999)
    (hb2 : w2.heap[b]? = some (.cells #[tv, .int .i64 st.at_, .bool st.failed, nv, .int .i64 st.depth] 50 (0, 0))) (hbel : Below b w w2)
    (hown : w2.ownsRow (b + 1) 54 3 (.slice (some ⟨g, 0, none⟩) (st.nodes.length + 1) cap) (st.nodes.length + 1) (ndsCells st.nodes ++ [.bool true, .string k, .int .i64 st.depth])) :
    PS b tv toks ((w2.setCell ⟨b, 3, none⟩ (.slice (some ⟨g, 0, none⟩) (st.nodes.length + 1) cap)).setCell ⟨b, 4, none⟩ (.int .i64 (st.depth + 1))) (openL k st) ∧
      Below b w ((w2.setCell ⟨b, 3, none⟩ (.slice (some ⟨g, 0, none⟩) (st.nodes.length + 1) cap)).setCell ⟨b, 4, none⟩ (.int .i64 (st.depth + 1))) := by
  have hbel3 := (hbel.setCell (p := ⟨b, 3, none⟩) (Nat.le_refl b) (.slice (some ⟨g, 0, none⟩) (st.nodes.length + 1) cap)).setCell (p := ⟨b, 4, none⟩) (Nat.le_refl b) (.int .i64 (st.depth + 1))
  refine ⟨h.step hbel3 (.slice (some ⟨g, 0, none⟩) (st.nodes.length + 1) cap) ?_ ?_ h.att (sz_open k hs), hbel3⟩
  · exact heap_setCell_same _ b 4 _ _ _ (heap_setCell_same _ b 3 _ _ _ hb2)
  · have := ownsRow_setCell_below (ownsRow_setCell_below hown (a := ⟨b, 3, none⟩) (by show b < b + 1; omega) (.slice (some ⟨g, 0, none⟩) (st.nodes.length + 1) cap)) (a := ⟨b, 4, none⟩) (by show b < b + 1; omega) (.int .i64 (st.depth + 1))
    show World.ownsRow _ (b + 1) _ 3 _ (st.nodes ++ [(⟨true, k, st.depth⟩ : Nd)]).length (ndsCells (st.nodes ++ [(⟨true, k, st.depth⟩ : Nd)]))
    rw [ndsCells_snoc, List.length_append]
    exact this

set_option maxHeartbeats 1600000 in
theorem open_any (b : Nat) (tv : Value) (toks : List Tok) (w : World) (st : PSt) (k : ByteArray) (h : PS b tv toks w st) (hs : sz st 999999) :
    Calls Tryz.prog 34 #[.pointer (some ⟨b, 0, none⟩), .string k] w fun e w' => e = .returned (.tuple #[]) ∧ PS b tv toks w' (openL k st) ∧ Below b w w' := by
  obtain ⟨nv, c0, c1, c2, c3, c4, hf, hown, hblk⟩ := h.cells
  obtain ⟨i0, hi, hz0, hz1, hz2⟩ := info_parts Tryz.infoNd
  have HP := hide h
  have HO := hide hown
  have HB := hide hblk
  have hlt := h.lt
  have hn := hs.1
  have hd1 := hs.2.1
  have hd := hs.2.2.1
  have HS := hide hs
  clear h hown hblk hs
  go_enter Tryz.func34, Tryz.ntmps34
  go_wp2_with fail
  go_region_law
    (refine step_append_lies _ rfl (.tmp 8) (.tmp 15) 36 rfl (b + 1) 54 i0 (.agg #[.bool false, .string ⟨#[]⟩, .int .i64 0]) 3 32 Tryz.underlying36 hi hz0 hz1 hz2 rfl (by decide) nv st.nodes.length (ndsCells st.nodes) (by simp [Act.eval]) (((unhide HO).alloc _).drew) ⟨w.heap.size, 0, none⟩ 1 1 [.bool true, .string k, .int .i64 st.depth] (by simp [Act.eval]) rfl (nd_news _ _ _ (heap_alloc_new _ _)) (nd_one _ _ _) (by decide) (by unfold maxLen; omega) (by omega) (by show b + 1 ≤ (w.alloc _).heap.size; simp; omega) _ rfl ?_;
     intro g cap w2 hown2 hgrow _ _;
     obtain ⟨hb2, hbel2⟩ := app_blk (unhide HO) (unhide HB) hlt hgrow;
     have d3 := (cell_of_row w2 b 3 _ _ _ hb2).trans rfl;
     have d4 := (cell_of_row w2 b 4 _ _ _ hb2).trans rfl;
     have df := fun j => frozen_of_row w2 b j _ _ hb2;
     have HO2 := hide hown2;
     have HB2 := hide hb2;
     have HL2 := hide hbel2;
     clear hown2 hgrow hb2 hbel2)
  all_goals go_wp2_with fail
  all_goals go_end0
  all_goals exact ⟨rfl, open_fin (unhide HP) (unhide HS) (unhide HB2) (unhide HL2) (unhide HO2)⟩

end Go.Proofs.YtdaneedflpfeaabGreatDoor

namespace Go.Proofs.YtdaneedflpfeaabGreatDoor
set_option maxRecDepth 100000
open Go.RowKit

theorem str_eq {a b : ByteArray} (h : a.toList = b.toList) : a = b := by
  rw [Go.ByteArray.toList_eq, Go.ByteArray.toList_eq] at h
  cases a; cases b; simp at h; rw [h]
theorem str_beq (a b : ByteArray) : (a.toList == b.toList) = decide (a = b) := by
  rw [Bool.eq_iff_iff]; simp only [beq_iff_eq, decide_eq_true_eq]
  exact ⟨str_eq, fun h => by rw [h]⟩

theorem PS.drewN {b : Nat} {tv : Value} {toks : List Tok} {w : World} {st : PSt} (h : PS b tv toks w st) (n : Nat) : PS b tv toks (w.drewN n) st :=
  ⟨h.nd, h.tok, h.tat, h.few, h.att, h.siz⟩
theorem belowDrewN {B : Nat} {a w : World} (h : Below B a w) (n : Nat) : Below B a (w.drewN n) := ⟨h.os, h.tape, h.output, h.size, h.block⟩
theorem app_blk2 {b : Nat} {w w0 w2 : World} {nv : Value} {n : Nat} {xs : List Value} {blk : Obj} (hown : w.ownsRow (b + 1) 54 3 nv n xs) (hblk : w.heap[b]? = some blk) (hlt : b < w.heap.size)
    (h0 : Below w.heap.size w w0) (hgrow : w0.grownBy w2 nv.ownBlock) : w2.heap[b]? = some blk ∧ Below b w w2 := by
  have hs := h0.size
  constructor
  · rw [hgrow.block b (by omega) (fun hk => by have := (hown.lt b hk.symm).1; omega), h0.block b hlt]; exact hblk
  · exact (h0.mono (Nat.le_of_lt hlt)).grown hgrow (by omega) (fun k hk => by have := (hown.lt k hk).1; omega)
theorem below_drewN' (b : Nat) (w : World) (n : Nat) : Below b w (w.drewN n) := ⟨rfl, rfl, rfl, Nat.le_refl _, fun _ _ => rfl⟩

set_option maxHeartbeats 1600000 in
theorem place_any (b : Nat) (tv : Value) (toks : List Tok) (w : World) (st : PSt) (h : PS b tv toks w st) :
    Calls Tryz.prog 20 #[.pointer (some ⟨b, 0, none⟩)] w fun e w' => e = .returned (.int .i64 (placeL toks st)) ∧ Below b w w' := by
  obtain ⟨nv, c0, c1, c2, c3, c4, hf, _, _⟩ := h.cells
  obtain ⟨g, cap, rfl, hgb⟩ := h.tat
  have hfew := h.few
  by_cases hlt : st.at_ < toks.length
  · obtain ⟨t, ht⟩ : ∃ t, toks[st.at_]? = some t := ⟨toks[st.at_], List.getElem?_eq_getElem hlt⟩
    obtain ⟨t0, t1, t2⟩ := h.tokCell rfl ht
    have HF : Hid (placeL toks st = t.place) := by show placeL toks st = _; simp [placeL, ht]
    have hlt' : (st.at_ : Int) < (toks.length : Int) := by omega
    clear ht h
    go_enter Tryz.func20, Tryz.ntmps20
    go_wp2_with fail
    go_quiet (fail)
    go_wp2_with fail
    go_quiet (fail)
    go_wp2_with fail
    go_ret
    exact ⟨ret_int (by rw [unhide HF]), ⟨rfl, rfl, rfl, Nat.le_refl _, fun _ _ => rfl⟩⟩
  · have HF : Hid (placeL toks st = 0) := by show placeL toks st = _; simp [placeL, List.getElem?_eq_none (Nat.le_of_not_lt hlt)]
    have hlt' : ¬ (st.at_ : Int) < (toks.length : Int) := by omega
    clear h
    go_enter Tryz.func20, Tryz.ntmps20
    go_wp2_with fail
    go_quiet (fail)
    go_wp2_with fail
    go_ret
    exact ⟨ret_int (by rw [unhide HF]; rfl), ⟨rfl, rfl, rfl, Nat.le_refl _, fun _ _ => rfl⟩⟩

set_option maxHeartbeats 1600000 in
theorem take_idle (b : Nat) (tv : Value) (toks : List Tok) (w : World) (st : PSt) (h : PS b tv toks w st) (hno : st.failed = true ∨ toks.length ≤ st.at_) :
    Calls Tryz.prog 64 #[.pointer (some ⟨b, 0, none⟩)] w fun e w' => e = .returned (.tuple #[]) ∧ PS b tv toks w' st ∧ Below b w w' := by
  obtain ⟨nv, c0, c1, c2, c3, c4, hf, _, _⟩ := h.cells
  obtain ⟨g, cap, rfl, hgb⟩ := h.tat
  have HP := hide h
  clear h
  cases hfl : st.failed with
  | true =>
    rw [hfl] at c2
    clear hno hfl
    go_enter Tryz.func64, Tryz.ntmps64
    go_wp2_with fail
    go_quiet (fail)
    go_wp2_with fail
    refine bodyPost_ret (results_none (by rfl) _ _ _) rfl ?_
    exact ⟨rfl, (unhide HP).drewN _, below_drewN' _ _ _⟩
  | false =>
    rw [hfl] at c2 hno
    have hge : (toks.length : Int) ≤ (st.at_ : Int) := by rcases hno with h | h; cases h; omega
    clear hno hfl
    go_enter Tryz.func64, Tryz.ntmps64
    go_wp2_with fail
    go_quiet (fail)
    go_wp2_with fail
    refine bodyPost_ret (results_none (by rfl) _ _ _) rfl ?_
    exact ⟨rfl, (unhide HP).drewN _, below_drewN' _ _ _⟩

theorem sz_take {st : PSt} {n : Nat} (i : Nat) (k : ByteArray) (h : sz st n) : sz { st with at_ := i, nodes := st.nodes ++ [⟨false, k, st.depth⟩] } (n + 1) := by
  have h' := h.mono (Nat.le_succ n)
  have := h.2.1; have := h.2.2.1; have := h.1
  refine ⟨by show (st.nodes ++ [_]).length ≤ _; rw [List.length_append]; show _ + 1 ≤ _; omega, h'.2.1, h'.2.2.1, fun x hx => ?_⟩
  rcases List.mem_append.1 hx with hx | hx
  · exact h'.2.2.2 x hx
  · simp at hx; subst hx; show -((n + 1 : Nat) : Int) ≤ st.depth ∧ st.depth ≤ ((n + 1 : Nat) : Int); omega

theorem take_fin {b : Nat} {tv : Value} {toks : List Tok} {w w2 : World} {st : PSt} {k : ByteArray} {nv : Value} {g cap : Nat} (h : PS b tv toks w st) (hs : sz st 999999) (ha : st.at_ + 1 ≤ toks.length)
    (hb2 : w2.heap[b]? = some (.cells #[tv, .int .i64 st.at_, .bool st.failed, nv, .int .i64 st.depth] 50 (0, 0))) (hbel : Below b w w2)
    (hown : w2.ownsRow (b + 1) 54 3 (.slice (some ⟨g, 0, none⟩) (st.nodes.length + 1) cap) (st.nodes.length + 1) (ndsCells st.nodes ++ [.bool false, .string k, .int .i64 st.depth])) :
    PS b tv toks ((w2.setCell ⟨b, 3, none⟩ (.slice (some ⟨g, 0, none⟩) (st.nodes.length + 1) cap)).setCell ⟨b, 1, none⟩ (.int .i64 (st.at_ + 1))) { st with at_ := st.at_ + 1, nodes := st.nodes ++ [⟨false, k, st.depth⟩] } ∧
      Below b w ((w2.setCell ⟨b, 3, none⟩ (.slice (some ⟨g, 0, none⟩) (st.nodes.length + 1) cap)).setCell ⟨b, 1, none⟩ (.int .i64 (st.at_ + 1))) := by
  have hbel3 := (hbel.setCell (p := ⟨b, 3, none⟩) (Nat.le_refl b) (.slice (some ⟨g, 0, none⟩) (st.nodes.length + 1) cap)).setCell (p := ⟨b, 1, none⟩) (Nat.le_refl b) (.int .i64 (st.at_ + 1))
  refine ⟨h.step hbel3 (.slice (some ⟨g, 0, none⟩) (st.nodes.length + 1) cap) ?_ ?_ ha (sz_take (st.at_ + 1) k hs), hbel3⟩
  · exact heap_setCell_same _ b 1 _ _ _ (heap_setCell_same _ b 3 _ _ _ hb2)
  · have := ownsRow_setCell_below (ownsRow_setCell_below hown (a := ⟨b, 3, none⟩) (by show b < b + 1; omega) (.slice (some ⟨g, 0, none⟩) (st.nodes.length + 1) cap)) (a := ⟨b, 1, none⟩) (by show b < b + 1; omega) (.int .i64 (st.at_ + 1))
    show World.ownsRow _ (b + 1) _ 3 _ (st.nodes ++ [(⟨false, k, st.depth⟩ : Nd)]).length (ndsCells (st.nodes ++ [(⟨false, k, st.depth⟩ : Nd)]))
    rw [ndsCells_snoc, List.length_append]
    exact this

set_option maxHeartbeats 1600000 in
theorem take_go (b : Nat) (tv : Value) (toks : List Tok) (w : World) (st : PSt) (t : Tok) (h : PS b tv toks w st) (hfl : st.failed = false) (ht : toks[st.at_]? = some t) (hs : sz st 999999) :
    Calls Tryz.prog 64 #[.pointer (some ⟨b, 0, none⟩)] w fun e w' => e = .returned (.tuple #[]) ∧ PS b tv toks w' { st with at_ := st.at_ + 1, nodes := st.nodes ++ [⟨false, t.text, st.depth⟩] } ∧ Below b w w' := by
  obtain ⟨nv, c0, c1, c2, c3, c4, hf, hown, hblk⟩ := h.cells
  obtain ⟨i0, hi, hz0, hz1, hz2⟩ := info_parts Tryz.infoNd
  obtain ⟨g0, cap0, rfl, hgb⟩ := h.tat
  obtain ⟨t0, t1, t2⟩ := h.tokCell rfl ht
  have hlt : st.at_ < toks.length := by
    rcases Nat.lt_or_ge st.at_ toks.length with h | h
    · exact h
    · rw [List.getElem?_eq_none h] at ht; cases ht
  have hlt' : (st.at_ : Int) < (toks.length : Int) := by omega
  have hfew := h.few
  have HP := hide h
  have HO := hide hown
  have HB := hide hblk
  have hlt2 := h.lt
  have hn := hs.1
  have HS := hide hs
  rw [hfl] at c2
  have ca : ∀ n o, ((w.drewN n).alloc o).cell? ⟨b, 3, none⟩ = some nv := fun n o => (World.cell?_alloc_past (w := w.drewN n) o b 3 hlt2).trans c3
  clear h hown hblk hfl ht hs
  go_enter Tryz.func64, Tryz.ntmps64
  go_wp2_with fail
  go_quiet (fail)
  go_wp2_with fail
  go_quiet (fail)
  go_wp2_with fail
  go_region_law
    (refine step_append_lies _ rfl (.tmp 34) (.tmp 41) 36 rfl (b + 1) 54 i0 (.agg #[.bool false, .string ⟨#[]⟩, .int .i64 0]) 3 32 Tryz.underlying36 hi hz0 hz1 hz2 rfl (by decide) nv st.nodes.length (ndsCells st.nodes) (by simp [Act.eval]) (by exact ((unhide HO).alloc _).drew) ⟨w.heap.size, 0, none⟩ 1 1 [.bool false, .string t.text, .int .i64 st.depth] (by simp [Act.eval]) rfl (nd_news _ _ _ (heap_alloc_new _ _)) (nd_one _ _ _) (by decide) (by unfold maxLen; omega) (by omega) (by show b + 1 ≤ (w.alloc _).heap.size; simp; omega) _ rfl ?_;
     intro g cap w2 hown2 hgrow _ _;
     obtain ⟨hb2, hbel2⟩ := app_blk2 (unhide HO) (unhide HB) hlt2 (by repeat (first | exact Below.refl _ _ | refine Below.drew ?_ | refine belowDrewN ?_ _ | refine Below.alloc ?_ (by first | exact Nat.le_refl _ | (simp; done)) _)) hgrow;
     have d1 := (cell_of_row w2 b 1 _ _ _ hb2).trans rfl;
     have d3 := (cell_of_row w2 b 3 _ _ _ hb2).trans rfl;
     have d4 := (cell_of_row w2 b 4 _ _ _ hb2).trans rfl;
     have df := fun j => frozen_of_row w2 b j _ _ hb2;
     have HO2 := hide hown2;
     have HB2 := hide hb2;
     have HL2 := hide hbel2;
     clear hown2 hgrow hb2 hbel2)
  all_goals go_wp2_with fail
  all_goals go_end0
  all_goals exact ⟨rfl, take_fin (unhide HP) (unhide HS) hlt (unhide HB2) (unhide HL2) (unhide HO2)⟩

theorem take_any (b : Nat) (tv : Value) (toks : List Tok) (w : World) (st : PSt) (h : PS b tv toks w st) (hs : sz st 999999) :
    Calls Tryz.prog 64 #[.pointer (some ⟨b, 0, none⟩)] w fun e w' => e = .returned (.tuple #[]) ∧ PS b tv toks w' (takeL toks st) ∧ Below b w w' := by
  cases hfl : st.failed with
  | true =>
    have : takeL toks st = st := by simp [takeL, hfl]
    rw [this]
    exact take_idle b tv toks w st h (.inl hfl)
  | false =>
    cases ht : toks[st.at_]? with
    | none =>
      have : takeL toks st = st := by simp [takeL, hfl, ht]
      rw [this]
      exact take_idle b tv toks w st h (.inr (by simpa using ht))
    | some t =>
      have : takeL toks st = { st with at_ := st.at_ + 1, nodes := st.nodes ++ [⟨false, t.text, st.depth⟩] } := by simp [takeL, hfl, ht]
      rw [this]
      exact take_go b tv toks w st t h hfl ht hs

set_option maxHeartbeats 800000 in
theorem need_any (b : Nat) (tv : Value) (toks : List Tok) (w : World) (st : PSt) (k : ByteArray) (h : PS b tv toks w st) (hs : sz st 999999) :
    Calls Tryz.prog 37 #[.pointer (some ⟨b, 0, none⟩), .string k] w fun e w' => e = .returned (.tuple #[]) ∧ PS b tv toks w' (needL toks k st) ∧ Below b w w' := by
  have hbq := str_beq (kindL toks st) k
  by_cases hk : kindL toks st = k
  · have HF : Hid (needL toks k st = takeL toks st) := by show needL toks k st = _; simp [needL, hk]
    rw [decide_eq_true hk] at hbq
    have HP := hide h
    have HS := hide hs
    clear h hk hs
    go_enter Tryz.func37, Tryz.ntmps37
    go_wp2_with (first
      | (go_at_call 35; refine (kind_any b tv toks _ st (unhide HP)).mono ?_; rintro e w1 ⟨rfl, hw⟩; have hw := hw.symm; subst hw)
      | (go_at_call 64; refine (take_any b tv toks _ st (unhide HP) (unhide HS)).mono ?_; rintro e w1 ⟨rfl, hP1, hB1⟩))
    go_end0
    rw [unhide HF]
    exact ⟨rfl, hP1, hB1⟩
  · have HF : Hid (needL toks k st = failL st) := by show needL toks k st = _; simp [needL, hk]
    rw [decide_eq_false hk] at hbq
    obtain ⟨nv, c0, c1, c2, c3, c4, hf, hown, hblk⟩ := h.cells
    have HP := hide h
    have HO := hide hown
    have HB := hide hblk
    clear h hk hown hblk hs
    go_enter Tryz.func37, Tryz.ntmps37
    go_wp2_with (first
      | (go_at_call 35; refine (kind_any b tv toks _ st (unhide HP)).mono ?_; rintro e w1 ⟨rfl, hw⟩; have hw := hw.symm; subst hw))
    go_end0
    rw [unhide HF]
    have hbel : Below b w (w.setCell ⟨b, 2, none⟩ (.bool true)) := (Below.refl b w).setCell (Nat.le_refl b) _
    refine ⟨rfl, (unhide HP).step hbel nv ?_ (ownsRow_setCell_below (unhide HO) (by show b < b + 1; omega) _) (unhide HP).att (unhide HP).siz, hbel⟩
    exact heap_setCell_same w b 2 _ _ _ (unhide HB)

end Go.Proofs.YtdaneedflpfeaabGreatDoor

namespace Go.Proofs.YtdaneedflpfeaabGreatDoor
set_option maxRecDepth 100000
open Go.RowKit

def bump (n : Nd) : Nd := { n with depth := n.depth + 1 }
/-- What has been laid from a node on becomes the beginning of a new node. -/
def aroundL (i : Nat) (k : ByteArray) (st : PSt) : PSt :=
  { st with nodes := st.nodes.take i ++ [⟨true, k, st.depth⟩] ++ (st.nodes.drop i).map bump, depth := st.depth + 1 }
/-- The nodes in the middle of the shift. -/
def midL (N : List Nd) (X : Nd) (k : Nat) : List Nd := (N ++ [X]).take (k + 1) ++ (N.drop k).map bump
theorem midL_len (N : List Nd) (X : Nd) (k : Nat) (h : k ≤ N.length) : (midL N X k).length = N.length + 1 := by
  simp [midL, List.length_take]; omega
theorem midL_start (N : List Nd) (X : Nd) : midL N X N.length = N ++ [X] := by simp only [midL, List.drop_length, List.map_nil, List.append_nil]; exact List.take_of_length_le (by simp)
theorem midL_get (N : List Nd) (X : Nd) (m : Nat) (h : m < N.length) : (midL N X (m + 1))[m]? = N[m]? := by
  simp only [midL]
  rw [List.getElem?_append_left (by simp [List.length_take]; omega), List.getElem?_take, if_pos (by omega), List.getElem?_append_left h]
theorem midL_set (N : List Nd) (X : Nd) (m : Nat) (x : Nd) (h : N[m]? = some x) : (midL N X (m + 1)).set (m + 1) (bump x) = midL N X m := by
  have hm : m < N.length := by
    rcases Nat.lt_or_ge m N.length with g | g
    · exact g
    · rw [List.getElem?_eq_none g] at h; cases h
  have hx : N[m] = x := by rw [List.getElem?_eq_getElem hm] at h; exact Option.some.inj h
  simp only [midL]
  have e1 : (N ++ [X]).take (m + 1 + 1) = (N ++ [X]).take (m + 1) ++ [(N ++ [X])[m + 1]'(by simp; omega)] := by rw [List.take_succ_eq_append_getElem (by simp; omega)]
  have e2 : N.drop m = x :: N.drop (m + 1) := by rw [← hx]; exact List.drop_eq_getElem_cons hm
  rw [e1, e2, List.map_cons, List.append_assoc, List.set_append_right (m + 1) _ (by simp [List.length_take]; omega)]
  have : m + 1 - ((N ++ [X]).take (m + 1)).length = 0 := by simp [List.length_take]; omega
  rw [this]
  simp
theorem midL_end (N : List Nd) (X Y : Nd) (i : Nat) (h : i ≤ N.length) : (midL N X i).set i Y = N.take i ++ [Y] ++ (N.drop i).map bump := by
  simp only [midL]
  have e1 : (N ++ [X]).take (i + 1) = N.take i ++ [(N ++ [X])[i]'(by simp; omega)] := by
    rw [List.take_succ_eq_append_getElem (by simp; omega), List.take_append_of_le_length h]
  rw [e1, List.append_assoc, List.append_assoc, List.set_append_right i _ (by simp [List.length_take]; omega)]
  have : i - (N.take i).length = 0 := by simp [List.length_take]; omega
  rw [this]
  simp

theorem ndsCells_set (l : List Nd) (i : Nat) (x : Nd) (h : i < l.length) : ndsCells (l.set i x) = (((ndsCells l).set (i * 3) (.bool x.inner)).set (i * 3 + 1) (.string x.text)).set (i * 3 + 2) (.int .i64 x.depth) := by
  induction l generalizing i with
  | nil => simp at h
  | cons t l ih =>
    cases i with
    | zero => simp [ndsCells, ndCells]
    | succ i =>
      have e : ∀ j, (i + 1) * 3 + j = i * 3 + j + 3 := fun j => by omega
      have e0 : (i + 1) * 3 = i * 3 + 3 := by omega
      have ih' := ih i (by simpa using h)
      rw [e 1, e 2, e0]
      simp only [List.set_cons_succ, ndsCells, List.flatMap_cons] at ih' ⊢
      rw [ih']
      simp [ndCells]

theorem nd_at {b : Nat} {tv : Value} {toks : List Tok} {w : World} {st : PSt} (h : PS b tv toks w st) (hne : 0 < st.nodes.length) :
    ∃ g cap, w.ownsRow (b + 1) 54 3 (.slice (some ⟨g, 0, none⟩) st.nodes.length cap) st.nodes.length (ndsCells st.nodes) ∧ b < g ∧ g < w.heap.size ∧
      w.heap[b]? = some (.cells #[tv, .int .i64 st.at_, .bool st.failed, .slice (some ⟨g, 0, none⟩) st.nodes.length cap, .int .i64 st.depth] 50 (0, 0)) ∧
      (∀ i x, st.nodes[i]? = some x → w.cell? ⟨g, i * 3, none⟩ = some (.bool x.inner) ∧ w.cell? ⟨g, i * 3 + 1, none⟩ = some (.string x.text) ∧ w.cell? ⟨g, i * 3 + 2, none⟩ = some (.int .i64 x.depth)) ∧
      (∀ j, w.frozen? ⟨g, j, none⟩ = false) := by
  obtain ⟨nv, hb, hown⟩ := h.nd
  obtain ⟨g, cap, rfl, hg1, hg2⟩ := hown.form hne
  refine ⟨g, cap, hown, by omega, hg2, hb, ?_, fun j => hown.frozenAt j⟩
  intro i x hi
  have hlt : i < st.nodes.length := by
    rcases Nat.lt_or_ge i st.nodes.length with h | h
    · exact h
    · rw [List.getElem?_eq_none h] at hi; cases hi
  refine ⟨?_, ?_, ?_⟩
  · rw [hown.cellAt (i * 3) (by omega)]; have := ndsCells_get st.nodes i 0 (by omega); rw [Nat.add_zero] at this; rw [this, hi]; rfl
  · rw [hown.cellAt (i * 3 + 1) (by omega), ndsCells_get st.nodes i 1 (by omega), hi]; rfl
  · rw [hown.cellAt (i * 3 + 2) (by omega), ndsCells_get st.nodes i 2 (by omega), hi]; rfl

theorem PS.alloc {b : Nat} {tv : Value} {toks : List Tok} {w : World} {st : PSt} (h : PS b tv toks w st) (o : Obj) : PS b tv toks (w.alloc o) st := by
  have hlt := h.lt
  obtain ⟨nv, hb, hown⟩ := h.nd
  exact ⟨⟨nv, (Below.heap_alloc w o b hlt).trans hb, hown.alloc o⟩, h.tok.alloc o, h.tat, h.few, h.att, h.siz⟩
theorem PS.drew {b : Nat} {tv : Value} {toks : List Tok} {w : World} {st : PSt} (h : PS b tv toks w st) : PS b tv toks w.drew st :=
  ⟨h.nd, h.tok, h.tat, h.few, h.att, h.siz⟩

theorem nd_store {b : Nat} {tv : Value} {toks : List Tok} {w : World} {st : PSt} (h : PS b tv toks w st) {g cap : Nat}
    (hown : w.ownsRow (b + 1) 54 3 (.slice (some ⟨g, 0, none⟩) st.nodes.length cap) st.nodes.length (ndsCells st.nodes)) (hbg : b < g)
    (hblk : w.heap[b]? = some (.cells #[tv, .int .i64 st.at_, .bool st.failed, .slice (some ⟨g, 0, none⟩) st.nodes.length cap, .int .i64 st.depth] 50 (0, 0)))
    (i : Nat) (x : Nd) (hi : i < st.nodes.length) (hs : sz { st with nodes := st.nodes.set i x } 1000000) :
    PS b tv toks (((w.setCell ⟨g, i * 3, none⟩ (.bool x.inner)).setCell ⟨g, i * 3 + 1, none⟩ (.string x.text)).setCell ⟨g, i * 3 + 2, none⟩ (.int .i64 x.depth)) { st with nodes := st.nodes.set i x } ∧
      Below b w (((w.setCell ⟨g, i * 3, none⟩ (.bool x.inner)).setCell ⟨g, i * 3 + 1, none⟩ (.string x.text)).setCell ⟨g, i * 3 + 2, none⟩ (.int .i64 x.depth)) := by
  have h1 := (hown.stored (i * 3) (.bool x.inner)).1
  have h2 := (h1.stored (i * 3 + 1) (.string x.text)).1
  have h3 := (h2.stored (i * 3 + 2) (.int .i64 x.depth)).1
  have hbel := (((Below.refl b w).setCell (p := ⟨g, i * 3, none⟩) (Nat.le_of_lt hbg) (.bool x.inner)).setCell (p := ⟨g, i * 3 + 1, none⟩) (Nat.le_of_lt hbg) (.string x.text)).setCell (p := ⟨g, i * 3 + 2, none⟩) (Nat.le_of_lt hbg) (.int .i64 x.depth)
  refine ⟨h.step hbel (.slice (some ⟨g, 0, none⟩) st.nodes.length cap) ?_ ?_ h.att hs, hbel⟩
  · rw [Below.heap_setCell _ _ _ _ (show b ≠ g by omega), Below.heap_setCell _ _ _ _ (show b ≠ g by omega), Below.heap_setCell _ _ _ _ (show b ≠ g by omega)]
    exact hblk
  · show World.ownsRow _ _ _ 3 _ (st.nodes.set i x).length (ndsCells (st.nodes.set i x))
    rw [ndsCells_set _ _ _ hi, List.length_set]
    exact h3

theorem midL_mem {N : List Nd} {X x : Nd} {k : Nat} (h : x ∈ midL N X k) : x ∈ N ∨ x = X ∨ ∃ y ∈ N, x = bump y := by
  rcases List.mem_append.1 h with h | h
  · rcases List.mem_append.1 (List.mem_of_mem_take h) with h | h
    · exact .inl h
    · exact .inr (.inl (by simpa using h))
  · obtain ⟨y, hy, rfl⟩ := List.mem_map.1 h
    exact .inr (.inr ⟨y, List.mem_of_mem_drop hy, rfl⟩)
theorem sz_mid {st : PSt} {n : Nat} (h : sz st n) (kd : ByteArray) (k : Nat) (hk : k ≤ st.nodes.length) : sz { openL kd st with nodes := midL st.nodes ⟨true, kd, st.depth⟩ k } (n + 1) := by
  have ho := sz_open kd h
  have h1 := h.1; have h2 := h.2.1; have h3 := h.2.2.1
  refine ⟨by show (midL _ _ k).length ≤ _; rw [midL_len _ _ _ hk]; omega, ho.2.1, ho.2.2.1, fun x hx => ?_⟩
  rcases midL_mem hx with hx | rfl | ⟨y, hy, rfl⟩
  · have := h.2.2.2 x hx; omega
  · show -((n + 1 : Nat) : Int) ≤ st.depth ∧ st.depth ≤ ((n + 1 : Nat) : Int); omega
  · have := h.2.2.2 y hy; show -((n + 1 : Nat) : Int) ≤ y.depth + 1 ∧ y.depth + 1 ≤ ((n + 1 : Nat) : Int); omega
theorem sz_around {st : PSt} {n : Nat} (h : sz st n) (kd : ByteArray) (i : Nat) (hi : i ≤ st.nodes.length) : sz (aroundL i kd st) (n + 1) := by
  have ho := sz_open kd h
  have h1 := h.1; have h2 := h.2.1; have h3 := h.2.2.1
  refine ⟨by simp [aroundL, List.length_take]; omega, ho.2.1, ho.2.2.1, fun x hx => ?_⟩
  simp only [aroundL, List.mem_append, List.mem_singleton, List.mem_map] at hx
  rcases hx with (hx | rfl) | ⟨y, hy, rfl⟩
  · have := h.2.2.2 x (List.mem_of_mem_take hx); omega
  · show -((n + 1 : Nat) : Int) ≤ st.depth ∧ st.depth ≤ ((n + 1 : Nat) : Int); omega
  · have := h.2.2.2 y (List.mem_of_mem_drop hy); show -((n + 1 : Nat) : Int) ≤ y.depth + 1 ∧ y.depth + 1 ≤ ((n + 1 : Nat) : Int); omega

set_option maxHeartbeats 3200000 in
theorem openAround_any (b : Nat) (tv : Value) (toks : List Tok) (w : World) (st : PSt) (f : Int) (kd : ByteArray) (h : PS b tv toks w st) (hf0 : 0 ≤ f) (hfn : f ≤ st.nodes.length) (hs : sz st 999999) :
    Calls Tryz.prog 107 #[.pointer (some ⟨b, 0, none⟩), .int .i64 f, .string kd] w fun e w' => e = .returned (.tuple #[]) ∧ PS b tv toks w' (aroundL f.toNat kd st) ∧ Below b w w' := by
  obtain ⟨i, rfl⟩ := Int.eq_ofNat_of_zero_le hf0
  rw [Int.toNat_natCast]
  have hin : i ≤ st.nodes.length := by omega
  have HP := hide h
  have HS := hide hs
  have hn := hs.1
  have hd1 := hs.2.1
  have hd2 := hs.2.2.1
  clear h hf0 hfn hs
  go_enter Tryz.func107, Tryz.ntmps107
  go_wp2_with (first
    | (go_at_call 34; refine (open_any b tv toks _ st kd (unhide HP) (unhide HS)).mono ?_; rintro e w1 ⟨rfl, hP1, hB1⟩; obtain ⟨nv1, e0, e1, e2, e3, e4, ef, eo, eb⟩ := hP1.cells; obtain ⟨g1, cap1, hv1, _, _⟩ := eo.form (by simp [openL]); subst hv1; rw [show (openL kd st).nodes.length = st.nodes.length + 1 from by simp [openL]] at e3; have HP1 := hide hP1; have HB1 := hide hB1; clear hP1 hB1 eo eb))
  go_loopw [7, 8] (fun kv _ wr => ∃ k : Nat, i ≤ k ∧ k ≤ st.nodes.length ∧ kv = .int .i64 k ∧ PS b tv toks wr { openL kd st with nodes := midL st.nodes ⟨true, kd, st.depth⟩ k } ∧ Below b w wr) (fun kv _ _ => (intOf kv).toNat)
  case atStart => exact ⟨st.nodes.length, hin, Nat.le_refl _, by go_num, by rw [midL_start]; exact unhide HP1, unhide HB1⟩
  case round =>
    clear e0 e1 e2 e3 e4 ef HP1 HB1
    obtain ⟨k, hk1, hk2, rfl, hPk, hBk⟩ := hrel
    have hlen : (midL st.nodes ⟨true, kd, st.depth⟩ k).length = st.nodes.length + 1 := midL_len _ _ _ hk2
    obtain ⟨g, cap, hown, hbg, hgs, hblk, hcell, hfz⟩ := nd_at hPk (by show 0 < (midL _ _ k).length; omega)
    have c3 : wr.cell? ⟨b, 3, none⟩ = some (.slice (some ⟨g, 0, none⟩) (st.nodes.length + 1) cap) := by rw [cell_of_row wr b 3 _ _ _ hblk]; show some (Value.slice _ (midL st.nodes ⟨true, kd, st.depth⟩ k).length cap) = _; rw [hlen]
    by_cases hlt : i < k
    · obtain ⟨m, rfl⟩ : ∃ m, k = m + 1 := ⟨k - 1, by omega⟩
      obtain ⟨x, hx⟩ : ∃ x, st.nodes[m]? = some x := ⟨st.nodes[m]'(by omega), List.getElem?_eq_getElem (by omega)⟩
      obtain ⟨y, hy⟩ : ∃ y, (midL st.nodes ⟨true, kd, st.depth⟩ (m + 1))[m + 1]? = some y := ⟨_, List.getElem?_eq_getElem (by omega)⟩
      obtain ⟨x0, x1, x2⟩ := hcell m x ((midL_get _ _ _ (by omega)).trans hx)
      obtain ⟨y0, y1, y2⟩ := hcell (m + 1) y hy
      have hxd := (unhide HS).2.2.2 x (List.mem_of_getElem? hx)
      have hbs : b < wr.heap.size := by omega
      have HX := hide hx
      have HPk := hide hPk
      have HBk := hide hBk
      have HO := hide hown
      have HBl := hide hblk
      have HL := hide hlen
      clear hx hy hPk hBk hown hblk hcell hlen
      go_wp2_with fail
      go_region
      go_wp2_with fail
      have hset := midL_set st.nodes ⟨true, kd, st.depth⟩ m x (unhide HX)
      have hst := nd_store (unhide HPk) (unhide HO) hbg (unhide HBl) (m + 1) (bump x) (by show m + 1 < (midL _ _ _).length; rw [unhide HL]; omega) (by show sz { openL kd st with nodes := (midL st.nodes _ (m + 1)).set (m + 1) (bump x) } _; rw [hset]; exact sz_mid (unhide HS) kd m (by omega))
      rw [show ({ openL kd st with nodes := (midL st.nodes ⟨true, kd, st.depth⟩ (m + 1)).set (m + 1) (bump x) } : PSt) = { openL kd st with nodes := midL st.nodes ⟨true, kd, st.depth⟩ m } from by rw [hset]] at hst
      go_roundw
      case rel => exact ⟨m, by omega, by omega, rfl, (hst.1.alloc _).drew, (((unhide HBk).trans hst.2).alloc (by have := hst.1.lt; omega) _).drew⟩
      case measure => simp [intOf]
    · have hki : k = i := by omega
      subst hki
      obtain ⟨y, hy⟩ : ∃ y, (midL st.nodes ⟨true, kd, st.depth⟩ k)[k]? = some y := ⟨_, List.getElem?_eq_getElem (by omega)⟩
      obtain ⟨y0, y1, y2⟩ := hcell k y hy
      have c4 : wr.cell? ⟨b, 4, none⟩ = some (.int .i64 (st.depth + 1)) := by rw [cell_of_row wr b 4 _ _ _ hblk]; rfl
      have HPk := hide hPk
      have HBk := hide hBk
      have HO := hide hown
      have HBl := hide hblk
      have HL := hide hlen
      clear hy hPk hBk hown hblk hcell hlen
      go_wp2_with fail
      go_region
      go_wp2_with fail
      go_end0
      have hset := midL_end st.nodes ⟨true, kd, st.depth⟩ ⟨true, kd, st.depth⟩ k hk2
      have hst := nd_store (unhide HPk) (unhide HO) hbg (unhide HBl) k ⟨true, kd, st.depth⟩ (by show k < (midL _ _ _).length; rw [unhide HL]; omega) (by show sz { openL kd st with nodes := (midL st.nodes _ k).set k _ } _; rw [hset]; exact sz_around (unhide HS) kd k hk2)
      rw [show ({ openL kd st with nodes := (midL st.nodes ⟨true, kd, st.depth⟩ k).set k ⟨true, kd, st.depth⟩ } : PSt) = aroundL k kd st from by rw [hset]; rfl] at hst
      exact ⟨rfl, hst.1.drew, ((unhide HBk).trans hst.2).drew⟩

end Go.Proofs.YtdaneedflpfeaabGreatDoor
