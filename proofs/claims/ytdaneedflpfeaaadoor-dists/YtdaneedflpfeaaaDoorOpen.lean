import Derived.Test.YtdaneedflpfeaaaDoorState
namespace Go.Proofs.YtdaneedflpfeaaaDoor
set_option maxRecDepth 100000
open Go.RowKit

section
variable {b : Nat} {tv : Value} {toks : List Tok} {w w' : World} {st st' : PSt}
theorem tok_keep {g cap n : Nat} {xs : List Value} (h : w.ownsRow 0 88 3 (.slice (some ⟨g, 0, none⟩) n cap) n xs) (hb : w'.heap[g]? = w.heap[g]?) : w'.ownsRow 0 88 3 (.slice (some ⟨g, 0, none⟩) n cap) n xs := by
  refine ⟨h.1, ?_⟩
  rcases h.2 with h2 | ⟨g', cap', cur, hv, h3, h4, h5⟩
  · exact .inl h2
  · refine .inr ⟨g', cap', cur, hv, h3, ?_, h5⟩
    simp only [Value.slice.injEq, Option.some.injEq, Addr.mk.injEq, and_true, true_and] at hv
    obtain ⟨rfl, rfl⟩ := hv
    rw [hb]; exact h4
theorem PS.step (h : PS b tv toks w st) (hb : Below b w w') (nv : Value) (hblk : w'.heap[b]? = some (.cells #[tv, .int .i64 st'.at_, .bool st'.failed, nv, .int .i64 st'.depth] 65 (0, 0)))
    (hown : w'.ownsRow (b + 1) 69 3 nv st'.nodes.length (ndsCells st'.nodes)) (ha : st'.at_ ≤ toks.length) (hn : sz st' 1000000) : PS b tv toks w' st' := by
  obtain ⟨g, cap, hv, hg⟩ := h.tat
  refine ⟨⟨nv, hblk, hown⟩, ?_, ⟨g, cap, hv, hg⟩, h.few, ha, hn⟩
  have := h.tok
  rw [hv] at this ⊢
  exact tok_keep this (hb.block g hg)
end

def placeL (toks : List Tok) (st : PSt) : Nat := match toks[st.at_]? with | none => 0 | some t => t.place
def closeL (st : PSt) : PSt := { st with depth := st.depth - 1 }
def failL (st : PSt) : PSt := { st with failed := true }
def openL (k : ByteArray) (st : PSt) : PSt := { st with nodes := st.nodes ++ [⟨true, k, st.depth⟩], depth := st.depth + 1 }
def takeL (toks : List Tok) (st : PSt) : PSt :=
  if st.failed then st else match toks[st.at_]? with | none => st | some t => { st with at_ := st.at_ + 1, nodes := st.nodes ++ [⟨false, t.text, st.depth⟩] }
def needL (toks : List Tok) (k : ByteArray) (st : PSt) : PSt := if kindL toks st = k then takeL toks st else failL st

theorem sz_close {st : PSt} {n : Nat} (h : sz st n) : sz (closeL st) (n + 1) := by
  have h' := h.mono (Nat.le_succ n)
  have := h.2.1
  exact ⟨h'.1, by show -((n + 1 : Nat) : Int) ≤ st.depth - 1; omega, by show st.depth - 1 ≤ ((n + 1 : Nat) : Int); have := h.2.2.1; omega, h'.2.2.2⟩
theorem sz_open {st : PSt} {n : Nat} (k : ByteArray) (h : sz st n) : sz (openL k st) (n + 1) := by
  have h' := h.mono (Nat.le_succ n)
  have := h.2.1; have := h.2.2.1; have := h.1
  refine ⟨by show (st.nodes ++ [_]).length ≤ _; rw [List.length_append]; show _ + 1 ≤ _; omega, by show -((n + 1 : Nat) : Int) ≤ st.depth + 1; omega, by show st.depth + 1 ≤ ((n + 1 : Nat) : Int); omega, fun x hx => ?_⟩
  rcases List.mem_append.1 hx with hx | hx
  · exact h'.2.2.2 x hx
  · simp at hx; subst hx; show -((n + 1 : Nat) : Int) ≤ st.depth ∧ st.depth ≤ ((n + 1 : Nat) : Int); omega

theorem close_any (b : Nat) (tv : Value) (toks : List Tok) (w : World) (st : PSt) (h : PS b tv toks w st) (hs : sz st 999999) :
    Calls Tryd.prog 46 #[.pointer (some ⟨b, 0, none⟩)] w fun e w' => e = .returned (.tuple #[]) ∧ PS b tv toks w' (closeL st) ∧ Below b w w' := by
  obtain ⟨nv, c0, c1, c2, c3, c4, hf, hown, hblk⟩ := h.cells
  have HP := hide h
  have HO := hide hown
  have HB := hide hblk
  have hd1 := hs.2.1
  have hd2 := hs.2.2.1
  have HS := hide (sz_close hs)
  clear h hown hblk hs
  go_enter Tryd.func46, Tryd.ntmps46
  go_wp2_with fail
  go_end0
  have hbel : Below b w (w.setCell ⟨b, 4, none⟩ (.int .i64 (st.depth - 1))) := (Below.refl b w).setCell (Nat.le_refl b) _
  refine ⟨rfl, (unhide HP).step hbel nv ?_ (ownsRow_setCell_below (unhide HO) (by show b < b + 1; omega) _) (unhide HP).att (unhide HS), hbel⟩
  exact heap_setCell_same w b 4 _ _ _ (unhide HB)

theorem Tryd.infoNd : (Tryd.prog.info? 69).map (fun i => (i.zero, i.size, i.bytes)) = some (some (.agg #[.bool false, .string ⟨#[]⟩, .int .i64 0]), 3, 32) := by kernel_rfl
theorem nd_news {w : World} {B : Nat} {T : TypeId} (k : Bool) (x : ByteArray) (p : Int) (hb : w.heap[B]? = some (.cells #[.bool k, .string x, .int .i64 p] T (0, 0))) :
    ∀ j u, [Value.bool k, .string x, .int .i64 p][j]? = some u → w.cell? ((⟨B, 0, none⟩ : Addr).add j) = some u := World.news_of_block hb
theorem nd_one (k : Bool) (x : ByteArray) (p : Int) : ∀ u ∈ [Value.bool k, .string x, .int .i64 p], u.oneCell' = true := by
  intro u hu; simp at hu; rcases hu with rfl | rfl | rfl <;> rfl

theorem app_blk {b : Nat} {w w2 : World} {nv : Value} {n : Nat} {xs : List Value} {o : Obj} {blk : Obj} (hown : w.ownsRow (b + 1) 69 3 nv n xs) (hblk : w.heap[b]? = some blk) (hlt : b < w.heap.size)
    (hgrow : (w.alloc o).drew.grownBy w2 nv.ownBlock) : w2.heap[b]? = some blk ∧ Below b w w2 := by
  constructor
  · rw [hgrow.block b (by show b < (w.alloc o).heap.size; simp; omega) (fun hk => by have := (hown.lt b hk.symm).1; omega)]
    show (w.alloc o).heap[b]? = _
    rw [Below.heap_alloc _ _ _ hlt]; exact hblk
  · exact (((Below.refl b w).alloc (Nat.le_of_lt hlt) o).drew).grown hgrow (by show b ≤ (w.alloc o).heap.size; simp; omega) (fun k hk => by have := (hown.lt k hk).1; omega)

theorem open_fin {b : Nat} {tv : Value} {toks : List Tok} {w w2 : World} {st : PSt} {k : ByteArray} {nv : Value} {g cap : Nat} (h : PS b tv toks w st) (hs : sz st 999999)
    (hb2 : w2.heap[b]? = some (.cells #[tv, .int .i64 st.at_, .bool st.failed, nv, .int .i64 st.depth] 65 (0, 0))) (hbel : Below b w w2)
    (hown : w2.ownsRow (b + 1) 69 3 (.slice (some ⟨g, 0, none⟩) (st.nodes.length + 1) cap) (st.nodes.length + 1) (ndsCells st.nodes ++ [.bool true, .string k, .int .i64 st.depth])) :
    PS b tv toks ((w2.setCell ⟨b, 3, none⟩ (.slice (some ⟨g, 0, none⟩) (st.nodes.length + 1) cap)).setCell ⟨b, 4, none⟩ (.int .i64 (st.depth + 1))) (openL k st) ∧
      Below b w ((w2.setCell ⟨b, 3, none⟩ (.slice (some ⟨g, 0, none⟩) (st.nodes.length + 1) cap)).setCell ⟨b, 4, none⟩ (.int .i64 (st.depth + 1))) := by
  have hbel3 := (hbel.setCell (p := ⟨b, 3, none⟩) (Nat.le_refl b) (.slice (some ⟨g, 0, none⟩) (st.nodes.length + 1) cap)).setCell (p := ⟨b, 4, none⟩) (Nat.le_refl b) (.int .i64 (st.depth + 1))
  refine ⟨h.step hbel3 (.slice (some ⟨g, 0, none⟩) (st.nodes.length + 1) cap) ?_ ?_ h.att (sz_open k hs), hbel3⟩
  · exact heap_setCell_same _ b 4 _ _ _ (heap_setCell_same _ b 3 _ _ _ hb2)
  · have := ownsRow_setCell_below (ownsRow_setCell_below hown (a := ⟨b, 3, none⟩) (by show b < b + 1; omega) (.slice (some ⟨g, 0, none⟩) (st.nodes.length + 1) cap)) (a := ⟨b, 4, none⟩) (by show b < b + 1; omega) (.int .i64 (st.depth + 1))
    show World.ownsRow _ (b + 1) _ 3 _ (st.nodes ++ [(⟨true, k, st.depth⟩ : Nd)]).length (ndsCells (st.nodes ++ [(⟨true, k, st.depth⟩ : Nd)]))
    rw [ndsCells_snoc, List.length_append]
    exact this

set_option maxHeartbeats 1600000 in
theorem open_any (b : Nat) (tv : Value) (toks : List Tok) (w : World) (st : PSt) (k : ByteArray) (h : PS b tv toks w st) (hs : sz st 999999) :
    Calls Tryd.prog 42 #[.pointer (some ⟨b, 0, none⟩), .string k] w fun e w' => e = .returned (.tuple #[]) ∧ PS b tv toks w' (openL k st) ∧ Below b w w' := by
  obtain ⟨nv, c0, c1, c2, c3, c4, hf, hown, hblk⟩ := h.cells
  obtain ⟨i0, hi, hz0, hz1, hz2⟩ := info_parts Tryd.infoNd
  have HP := hide h
  have HO := hide hown
  have HB := hide hblk
  have hlt := h.lt
  have hn := hs.1
  have hd1 := hs.2.1
  have hd := hs.2.2.1
  have HS := hide hs
  clear h hown hblk hs
  go_enter Tryd.func42, Tryd.ntmps42
  go_wp2_with fail
  go_region_law
    (refine step_append_lies _ rfl (.tmp 8) (.tmp 15) 36 rfl (b + 1) 69 i0 (.agg #[.bool false, .string ⟨#[]⟩, .int .i64 0]) 3 32 Tryd.underlying36 hi hz0 hz1 hz2 rfl (by decide) nv st.nodes.length (ndsCells st.nodes) (by simp [Act.eval]) (((unhide HO).alloc _).drew) ⟨w.heap.size, 0, none⟩ 1 1 [.bool true, .string k, .int .i64 st.depth] (by simp [Act.eval]) rfl (nd_news _ _ _ (heap_alloc_new _ _)) (nd_one _ _ _) (by decide) (by unfold maxLen; omega) (by omega) (by show b + 1 ≤ (w.alloc _).heap.size; simp; omega) _ rfl ?_;
     intro g cap w2 hown2 hgrow _ _;
     obtain ⟨hb2, hbel2⟩ := app_blk (unhide HO) (unhide HB) hlt hgrow;
     have d3 := (cell_of_row w2 b 3 _ _ _ hb2).trans rfl;
     have d4 := (cell_of_row w2 b 4 _ _ _ hb2).trans rfl;
     have df := fun j => frozen_of_row w2 b j _ _ hb2;
     have HO2 := hide hown2;
     have HB2 := hide hb2;
     have HL2 := hide hbel2;
     clear hown2 hgrow hb2 hbel2)
  all_goals go_wp2_with fail
  all_goals go_end0
  all_goals exact ⟨rfl, open_fin (unhide HP) (unhide HS) (unhide HB2) (unhide HL2) (unhide HO2)⟩

end Go.Proofs.YtdaneedflpfeaaaDoor
