import Derived.Test.YtdaneedflpfeaaaDoorKind
namespace Go.Proofs.YtdaneedflpfeaaaDoor
set_option maxRecDepth 100000
open Go.RowKit

structure Tok where
  kind : ByteArray
  text : ByteArray
  place : Nat
def tokCells (t : Tok) : List Value := [.string t.kind, .string t.text, .int .i64 t.place]
def toksCells (l : List Tok) : List Value := l.flatMap tokCells
theorem toksCells_len (l : List Tok) : (toksCells l).length = l.length * 3 := by
  induction l with
  | nil => rfl
  | cons t l ih => simp only [toksCells, List.flatMap_cons, List.length_append, List.length_cons] at *; rw [ih]; simp [tokCells]; omega
theorem toksCells_snoc (l : List Tok) (t : Tok) : toksCells (l ++ [t]) = toksCells l ++ tokCells t := by simp [toksCells]

theorem tokenE_bd (s : ByteArray) (p : Nat) (h : p ≤ s.size) : p ≤ tokenE s p ∧ tokenE s p ≤ s.size := by
  unfold tokenE
  have a1 := runE_ge wordB s p; have a2 := runE_le wordB s p h
  have b1 := runE_ge digitB s p; have b2 := runE_le digitB s p h
  by_cases hp : s.size ≤ p
  · rw [if_pos hp]; omega
  rw [if_neg hp]
  split
  · omega
  split
  · omega
  unfold signE
  split
  · omega
  split
  · rename_i hl; simp [longB] at hl; omega
  split
  · omega
  · omega
theorem tokenE_out {s : ByteArray} {p : Nat} (h : s.size ≤ p) : tokenE s p = p := by simp [tokenE, h]

/-- The tokens of a text from a place on: up to the end, or the first that is none. -/
def scanL (s : ByteArray) (i : Nat) : List Tok :=
  if _h : aheadE s i < tokenE s (aheadE s i) ∧ i ≤ s.size then
    ⟨kindB (s.extract (aheadE s i) (tokenE s (aheadE s i))), s.extract i (tokenE s (aheadE s i)), aheadE s i⟩ :: scanL s (tokenE s (aheadE s i))
  else [⟨if aheadE s i < s.size then kNone else kEnd, s.extract i (aheadE s i), aheadE s i⟩]
  termination_by s.size - i
  decreasing_by
  have h1 := aheadE_bd s i _h.2
  have : aheadE s i < s.size := by
    by_cases g : aheadE s i < s.size
    · exact g
    · have := tokenE_out (s := s) (p := aheadE s i) (by omega); omega
  omega
theorem scanL_go {s : ByteArray} {i p e : Nat} (hi : i ≤ s.size) (hp : aheadE s i = p) (he : tokenE s p = e) (h : p < e) :
    scanL s i = ⟨kindB (s.extract p e), s.extract i e, p⟩ :: scanL s e := by
  subst hp; subst he
  rw [scanL, dif_pos ⟨h, hi⟩]
theorem scanL_stop {s : ByteArray} {i p : Nat} (hp : aheadE s i = p) (h : ¬ p < tokenE s p) :
    scanL s i = [⟨if p < s.size then kNone else kEnd, s.extract i p, p⟩] := by
  subst hp
  rw [scanL, dif_neg (fun g => h g.1)]

theorem Tryd.infoTok : (Tryd.prog.info? 88).map (fun i => (i.zero, i.size, i.bytes)) = some (some (.agg #[.string ⟨#[]⟩, .string ⟨#[]⟩, .int .i64 0]), 3, 40) := by kernel_rfl

theorem tok_news {w : World} {B : Nat} {T : TypeId} (k x : ByteArray) (p : Int) (hb : w.heap[B]? = some (.cells #[.string k, .string x, .int .i64 p] T (0, 0))) :
    ∀ j u, [Value.string k, .string x, .int .i64 p][j]? = some u → w.cell? ((⟨B, 0, none⟩ : Addr).add j) = some u := World.news_of_block hb
theorem tok_one (k x : ByteArray) (p : Int) : ∀ u ∈ [Value.string k, .string x, .int .i64 p], u.oneCell' = true := by
  intro u hu; simp at hu; rcases hu with rfl | rfl | rfl <;> rfl

set_option maxHeartbeats 1600000 in
set_option maxRecDepth 100000 in
theorem scan_any (s : ByteArray) (w : World) (hs : s.size ≤ 600) :
    Calls Tryd.prog 23 #[.string s] w fun e w' => ∃ g cap, e = .returned (.slice (some ⟨g, 0, none⟩) (scanL s 0).length cap) ∧
      w'.ownsRow w.heap.size 88 3 (.slice (some ⟨g, 0, none⟩) (scanL s 0).length cap) (scanL s 0).length (toksCells (scanL s 0)) ∧ Below w.heap.size w w' ∧ g < w'.heap.size := by
  obtain ⟨i0, hi, hz0, hz1, hz2⟩ := info_parts Tryd.infoTok
  go_enter Tryd.func23, Tryd.ntmps23
  go_wp2_with (first
    | (go_at_call 39; refine (aheadEnd_any _ _ _ hs (by omega) (by omega)).mono ?_; rintro e w' ⟨rfl, rfl⟩)
    | (go_at_call 40; refine (tokenEnd_any _ _ _ hs (by omega) (by have := aheadE_bd s 0 (by omega); omega)).mono ?_; rintro e w' ⟨rfl, rfl⟩))
  go_loopw [3, 4, 5, 6, 7] (fun l f p e _ wr => ∃ (L : List Tok) (i : Nat), i ≤ s.size ∧ L.length ≤ i ∧ f = .int .i64 i ∧ p = .int .i64 (aheadE s i) ∧ e = .int .i64 (tokenE s (aheadE s i)) ∧
      wr.ownsRow w'.heap.size 88 3 l L.length (toksCells L) ∧ L ++ scanL s i = scanL s 0 ∧ Below w'.heap.size w' wr) (fun _ f _ _ _ _ => s.size - (intOf f).toNat)
  case atStart => exact ⟨[], 0, by omega, by simp, rfl, rfl, rfl, World.ownsRow_nil _ _ _ _, rfl, Below.refl _ _⟩
  case round =>
    obtain ⟨L, i, hi1, hL, rfl, rfl, rfl, hown, hE, hbel⟩ := hrel
    have HE := hide hE
    clear hE
    have ha := aheadE_bd s i hi1
    have ht := tokenE_bd s (aheadE s i) ha.2
    have HG := hide (fun p e => @scanL_go s i p e hi1)
    have HS := hide (fun p => @scanL_stop s i p)
    have HB := hide hbel
    have hsz := hbel.size
    clear hbel
    generalize hp : aheadE s i = p at *
    generalize he : tokenE s p = e at *
    have HT := hide he
    clear he
    by_cases hlt : p < e
    · have c1 := toksCells_len L
      go_wp2_with (first
        | (go_at_call 41; refine (kindOf_any _ _).mono ?_; rintro e w1 ⟨rfl, hw⟩; have hw := hw.symm; subst hw)
        | (at_builtin; refine wpList_append_lies _ rfl (.tmp 23) (.tmp 31) 62 rfl w'.heap.size 88 i0 (.agg #[.string ⟨#[]⟩, .string ⟨#[]⟩, .int .i64 0]) 3 40 Tryd.underlying62 hi hz0 hz1 hz2 rfl (by decide) _ L.length (toksCells L) rfl (hown.alloc _) ⟨wr.heap.size, 0, none⟩ 1 1 [.string (kindB (s.extract p e)), .string (s.extract i e), .int .i64 p] rfl rfl (tok_news _ _ _ (heap_alloc_new _ _)) (tok_one _ _ _) (by decide) (by unfold maxLen; omega) (by omega) (by simp; omega) _ rfl ?_)
        | fail)
      intro g cap w2 hown2 hgrow _ hlt2
      have hB2 : Below w'.heap.size w' w2 := ((unhide HB).alloc hsz _).grown hgrow (by simp; omega) (fun k hk => (hown.lt k hk).1)
      have HB2 := hide hB2
      have HO2 := hide hown2
      clear hown2 hgrow hB2 hown HB
      have ha2 := aheadE_bd s e ht.2
      go_wp2_with (first
        | (go_at_call 39; refine (aheadEnd_any _ _ _ hs (by omega) (by omega)).mono ?_; rintro e w1 ⟨rfl, hw⟩; have hw := hw.symm; subst hw)
        | (go_at_call 40; refine (tokenEnd_any _ _ _ hs (by omega) (by omega)).mono ?_; rintro e w1 ⟨rfl, hw⟩; have hw := hw.symm; subst hw))
      go_roundw
      case rel =>
        refine ⟨L ++ [⟨kindB (s.extract p e), s.extract i e, p⟩], e, ht.2, by simp; omega, rfl, rfl, rfl, ?_, ?_, unhide HB2⟩
        · rw [toksCells_snoc, List.length_append]; exact unhide HO2
        · rw [← unhide HE, unhide HG p e rfl (unhide HT) hlt]; simp
      case measure => simp [intOf]; omega
    · have c1 := toksCells_len L
      have HF : Hid (scanL s i = [⟨if p < s.size then kNone else kEnd, s.extract i p, p⟩]) := unhide HS p rfl (by rw [unhide HT]; exact hlt)
      have HF2 : Hid (∀ k, (if p < s.size then kNone else kEnd) = k → scanL s 0 = L ++ [⟨k, s.extract i p, p⟩]) := fun k hk => by rw [← unhide HE, unhide HF, hk]
      by_cases hps : p < s.size
      · have HK := hide (unhide HF2 kNone (if_pos hps))
        go_wp2_with (first
          | (at_builtin; refine wpList_append_lies _ rfl (.tmp 44) (.tmp 52) 62 rfl w'.heap.size 88 i0 (.agg #[.string ⟨#[]⟩, .string ⟨#[]⟩, .int .i64 0]) 3 40 Tryd.underlying62 hi hz0 hz1 hz2 rfl (by decide) _ L.length (toksCells L) rfl (hown.alloc _) ⟨wr.heap.size, 0, none⟩ 1 1 [.string kNone, .string (s.extract i p), .int .i64 p] rfl rfl (tok_news _ _ _ (heap_alloc_new _ _)) (tok_one _ _ _) (by decide) (by unfold maxLen; omega) (by omega) (by simp; omega) _ rfl ?_)
          | fail)
        intro g cap w2 hown2 hgrow _ hlt2
        have hB2 : Below w'.heap.size w' w2 := ((unhide HB).alloc hsz _).grown hgrow (by simp; omega) (fun k hk => (hown.lt k hk).1)
        have HB2 := hide hB2
        have HO2 := hide hown2
        clear hown2 hgrow hB2 hown HB
        go_wp2_with fail
        go_ret
        refine ⟨g, cap, ?_, ?_, unhide HB2, hlt2⟩
        · rw [unhide HK, List.length_append]; rfl
        · rw [unhide HK, toksCells_snoc, List.length_append]; exact unhide HO2
      · have HK := hide (unhide HF2 kEnd (if_neg hps))
        go_wp2_with (first
          | (at_builtin; refine wpList_append_lies _ rfl (.tmp 44) (.tmp 52) 62 rfl w'.heap.size 88 i0 (.agg #[.string ⟨#[]⟩, .string ⟨#[]⟩, .int .i64 0]) 3 40 Tryd.underlying62 hi hz0 hz1 hz2 rfl (by decide) _ L.length (toksCells L) rfl (hown.alloc _) ⟨wr.heap.size, 0, none⟩ 1 1 [.string kEnd, .string (s.extract i p), .int .i64 p] rfl rfl (tok_news _ _ _ (heap_alloc_new _ _)) (tok_one _ _ _) (by decide) (by unfold maxLen; omega) (by omega) (by simp; omega) _ rfl ?_)
          | fail)
        intro g cap w2 hown2 hgrow _ hlt2
        have hB2 : Below w'.heap.size w' w2 := ((unhide HB).alloc hsz _).grown hgrow (by simp; omega) (fun k hk => (hown.lt k hk).1)
        have HB2 := hide hB2
        have HO2 := hide hown2
        clear hown2 hgrow hB2 hown HB
        go_wp2_with fail
        go_ret
        refine ⟨g, cap, ?_, ?_, unhide HB2, hlt2⟩
        · rw [unhide HK, List.length_append]; rfl
        · rw [unhide HK, toksCells_snoc, List.length_append]; exact unhide HO2

end Go.Proofs.YtdaneedflpfeaaaDoor
