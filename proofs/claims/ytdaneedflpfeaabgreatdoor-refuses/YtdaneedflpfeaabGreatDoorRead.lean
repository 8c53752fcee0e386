import Derived.Test.YtdaneedflpfeaabGreatDoorParse6
namespace Go.Proofs.YtdaneedflpfeaabGreatDoor
set_option maxRecDepth 100000
open Go.RowKit

theorem row_keep {w w' : World} {base e size g n cap : Nat} {xs : List Value} (h : w.ownsRow base e size (.slice (some ⟨g, 0, none⟩) n cap) n xs) (hb : w'.heap[g]? = w.heap[g]?) : w'.ownsRow base e size (.slice (some ⟨g, 0, none⟩) n cap) n xs := by
  refine ⟨h.1, ?_⟩
  rcases h.2 with h2 | ⟨g', cap', cur, hv, h3, h4, h5⟩
  · exact .inl h2
  · refine .inr ⟨g', cap', cur, hv, h3, ?_, h5⟩
    simp only [Value.slice.injEq, Option.some.injEq, Addr.mk.injEq, and_true, true_and] at hv
    obtain ⟨rfl, rfl⟩ := hv
    rw [hb]; exact h4
theorem row_below {w w' : World} {base e size B n : Nat} {v : Value} {xs : List Value} (h : w.ownsRow base e size v n xs) (hv : ∀ k, v.ownBlock = some k → k < B) (hb : Below B w w') : w'.ownsRow base e size v n xs := by
  rcases h.2 with ⟨rfl, rfl⟩ | ⟨g, cap, cur, rfl, _⟩
  · exact ⟨h.1, .inl ⟨rfl, rfl⟩⟩
  · exact row_keep h (hb.block g (hv g rfl))
theorem row_base {w : World} {base base' e size n : Nat} {v : Value} {xs : List Value} (h : w.ownsRow base e size v n xs) (hb : base' ≤ base) : w.ownsRow base' e size v n xs := by
  refine ⟨h.1, ?_⟩
  rcases h.2 with h2 | ⟨g, cap, cur, hv, h3, h4⟩
  · exact .inl h2
  · exact .inr ⟨g, cap, cur, hv, Nat.le_trans hb h3, h4⟩

def innerStep (d : Int) (n : Nd) : Int := if n.inner = true ∧ d < n.depth then n.depth else d
/-- How many inner nodes stand within each other. -/
def innerD (l : List Nd) : Int := l.foldl innerStep 0
theorem innerD_snoc (l : List Nd) (n : Nd) : innerD (l ++ [n]) = innerStep (innerD l) n := by simp [innerD]

/-- The cells of a row of nodes. -/
theorem row_nd {w : World} {base g cap : Nat} {l : List Nd} (hown : w.ownsRow base 54 3 (.slice (some ⟨g, 0, none⟩) l.length cap) l.length (ndsCells l)) {i : Nat} {x : Nd} (hi : l[i]? = some x) :
    w.cell? ⟨g, i * 3, none⟩ = some (.bool x.inner) ∧ w.cell? ⟨g, i * 3 + 1, none⟩ = some (.string x.text) ∧ w.cell? ⟨g, i * 3 + 2, none⟩ = some (.int .i64 x.depth) := by
  have hlt : i < l.length := by
    rcases Nat.lt_or_ge i l.length with h | h
    · exact h
    · rw [List.getElem?_eq_none h] at hi; cases hi
  refine ⟨?_, ?_, ?_⟩
  · rw [hown.cellAt (i * 3) (by omega)]; have := ndsCells_get l i 0 (by omega); rw [Nat.add_zero] at this; rw [this, hi]; rfl
  · rw [hown.cellAt (i * 3 + 1) (by omega), ndsCells_get l i 1 (by omega), hi]; rfl
  · rw [hown.cellAt (i * 3 + 2) (by omega), ndsCells_get l i 2 (by omega), hi]; rfl

theorem take_snoc' {α : Type} (l : List α) (k : Nat) (x : α) (h : l[k]? = some x) : l.take (k + 1) = l.take k ++ [x] := by
  rw [List.take_add_one, h]; rfl

set_option maxHeartbeats 1600000 in
theorem innerDepth_any (l : List Nd) (base g cap : Nat) (w : World) (hl : l.length ≤ 1000000) (hg : g < w.heap.size) (hown : w.ownsRow base 54 3 (.slice (some ⟨g, 0, none⟩) l.length cap) l.length (ndsCells l)) :
    Calls Tryz.prog 21 #[.slice (some ⟨g, 0, none⟩) l.length cap] w fun e w' => e = .returned (.int .i64 (innerD l)) ∧ Below w.heap.size w w' := by
  have HO := hide hown
  clear hown
  go_enter Tryz.func21, Tryz.ntmps21
  go_wp2_with fail
  go_loopw [3, 5, 8] (fun d _ i wr => ∃ k : Nat, k ≤ l.length ∧ i = .int .i64 k ∧ d = .int .i64 (innerD (l.take k)) ∧ Below w.heap.size w wr) (fun _ _ i _ => l.length - (intOf i).toNat)
  case atStart => exact ⟨0, Nat.zero_le _, rfl, rfl, Below.refl _ _⟩
  case round =>
    obtain ⟨k, hk, rfl, rfl, hB⟩ := hrel
    have HB := hide hB
    have hsz := hB.size
    have hgr : g < wr.heap.size := by omega
    by_cases hlt : k < l.length
    · obtain ⟨x, hx⟩ : ∃ x, l[k]? = some x := ⟨_, List.getElem?_eq_getElem hlt⟩
      obtain ⟨x0, x1, x2⟩ := row_nd (row_keep (unhide HO) (hB.block g hg)) hx
      have HI : Hid (innerD (l.take (k + 1)) = innerStep (innerD (l.take k)) x) := by show innerD (l.take (k + 1)) = _; rw [take_snoc' l k x hx, innerD_snoc]
      clear hB hx
      generalize innerD (l.take k) = d at *
      cases hin : x.inner with
      | true =>
        rw [hin] at x0
        by_cases hdx : d < x.depth
        · have HI2 : Hid (innerStep d x = x.depth) := by show innerStep d x = _; simp [innerStep, hin, hdx]
          clear hin
          go_wp2_with fail
          go_roundw
          case rel => exact ⟨k + 1, by omega, by go_num, by rw [unhide HI, unhide HI2], (unhide HB).alloc hsz _⟩
          case measure => simp [intOf]; omega
        · have HI2 : Hid (innerStep d x = d) := by show innerStep d x = _; simp [innerStep, hdx]
          clear hin
          go_wp2_with fail
          go_roundw
          case rel => exact ⟨k + 1, by omega, by go_num, by rw [unhide HI, unhide HI2], (unhide HB).alloc hsz _⟩
          case measure => simp [intOf]; omega
      | false =>
        rw [hin] at x0
        have HI2 : Hid (innerStep d x = d) := by show innerStep d x = _; simp [innerStep, hin]
        clear hin
        go_wp2_with fail
        go_roundw
        case rel => exact ⟨k + 1, by omega, by go_num, by rw [unhide HI, unhide HI2], (unhide HB).alloc hsz _⟩
        case measure => simp [intOf]; omega
    · have HT : Hid (l.take k = l) := List.take_of_length_le (by omega)
      clear hB
      go_wp2_with fail
      go_ret
      exact ⟨ret_int (by rw [unhide HT]), unhide HB⟩

end Go.Proofs.YtdaneedflpfeaabGreatDoor

namespace Go.Proofs.YtdaneedflpfeaabGreatDoor
set_option maxRecDepth 100000
open Go.RowKit

def st0 : PSt := ⟨0, false, [], 0⟩
theorem scanL_len (s : ByteArray) (i : Nat) (h : i ≤ s.size) : (scanL s i).length ≤ s.size - i + 1 := by
  induction i using scanL.induct s with
  | case1 i hi ih =>
    have h1 := aheadE_bd s i h
    have h2 := tokenE_bd s (aheadE s i) h1.2
    rw [scanL_go h rfl rfl hi.1, List.length_cons]
    have := ih h2.2
    omega
  | case2 i hi =>
    rw [scanL_stop rfl (fun g => hi ⟨g, h⟩)]
    simp

/-- What comes of a text of at most 600 bytes whose parser ends in a state. -/
inductive ROut where
  | err (e : Int) (p : Int)
  | ok (l : List Nd)
def readOut (toks : List Tok) (st : PSt) : ROut :=
  if st.failed then .err 2 (placeL toks st) else if 20 < innerD st.nodes then .err 3 0 else if 80 < st.nodes.length then .err 4 0 else .ok st.nodes
/-- What read answers, and where the nodes lie. -/
def RPost (w : World) (r : ROut) (e : Ending) (w' : World) : Prop :=
  Below w.heap.size w w' ∧ match r with
  | .err c p => e = .returned (.tuple #[.slice none 0 0, .int .i64 c, .int .i64 p])
  | .ok l => ∃ g cap, e = .returned (.tuple #[.slice (some ⟨g, 0, none⟩) l.length cap, .int .i64 0, .int .i64 0]) ∧ g < w'.heap.size ∧ w'.ownsRow w.heap.size 54 3 (.slice (some ⟨g, 0, none⟩) l.length cap) l.length (ndsCells l)

set_option maxHeartbeats 400000 in
theorem read_long (s : ByteArray) (w : World) (h : 600 < s.size) : Calls Tryz.prog 10 #[.string s] w fun e w' => RPost w (.err 1 0) e w' := by
  go_enter Tryz.func10, Tryz.ntmps10
  go_wp2_with fail
  go_ret3
  exact ⟨Below.refl _ _, rfl⟩

theorem ps_start {w w1 : World} {g cap : Nat} {toks : List Tok} (hf : toks.length ≤ 1000) (hg : g < w1.heap.size)
    (hown : w1.ownsRow w.heap.size 75 3 (.slice (some ⟨g, 0, none⟩) toks.length cap) toks.length (toksCells toks)) :
    PS w1.heap.size (.slice (some ⟨g, 0, none⟩) toks.length cap) toks (w1.alloc (.cells #[.slice (some ⟨g, 0, none⟩) toks.length cap, .int .i64 0, .bool false, .slice none 0 0, .int .i64 0] 50)) st0 :=
  ⟨⟨.slice none 0 0, heap_alloc_new _ _, World.ownsRow_nil _ _ _ _⟩, (row_base hown (Nat.zero_le _)).alloc _, ⟨g, cap, rfl, hg⟩, hf, Nat.zero_le _, ⟨Nat.zero_le _, by decide, by decide, fun x hx => by cases hx⟩⟩

set_option maxHeartbeats 1600000 in
theorem read_core (s : ByteArray) (w : World) (hs : s.size ≤ 600) (toks : List Tok) (ht : scanL s 0 = toks) (n : Nat) (st : PSt) (hP : P toks n .program st0 = some st) (hne : st.failed = false → 0 < st.nodes.length) :
    Calls Tryz.prog 10 #[.string s] w fun e w' => RPost w (readOut toks st) e w' := by
  have hlen := scanL_len s 0 (Nat.zero_le _)
  rw [ht] at hlen
  have HP := hide hP
  have HT := hide ht
  clear hP ht
  go_enter Tryz.func10, Tryz.ntmps10
  go_wp2_with fail
  refine (scan_any s _ hs).mono ?_
  rintro e w1 ⟨g, cap, rfl, hown, hbel, hg⟩
  rw [unhide HT] at hown ⊢
  have HS := hide (ps_start (by omega) hg hown)
  have HB := hide hbel
  have hsz := hbel.size
  clear hown hbel
  go_wp2_with fail
  refine Calls.mono (methods w1.heap.size _ toks n n (Nat.le_refl n) .program st0 st _ rfl (unhide HS) (unhide HP)) ?_
  rintro e w2 ⟨rfl, hP2, hB2⟩
  obtain ⟨nv, c0, c1, c2, c3, c4, hf, hown2, hblk⟩ := hP2.cells
  have HB2 : Hid (Below w.heap.size w w2) := ((unhide HB).alloc hsz _).trans (hB2.mono hsz)
  have hsz2 : w.heap.size < w2.heap.size := by have := (unhide HB2).size; have := hP2.lt; omega
  have HP2 := hide hP2
  cases hfl : st.failed with
  | true =>
    have HR : Hid (readOut toks st = .err 2 (placeL toks st)) := by show readOut toks st = _; simp [readOut, hfl]
    rw [hfl] at c2
    clear hfl hP2 hB2 hown2 hblk
    go_wp2_with fail
    refine (place_any w1.heap.size _ toks _ st (unhide HP2)).mono ?_
    rintro e w3 ⟨rfl, hB3⟩
    have HB3 : Hid (Below w.heap.size w w3) := (unhide HB2).trans (hB3.mono hsz)
    clear hB3
    go_wp2_with fail
    go_ret3
    rw [unhide HR]
    exact ⟨unhide HB3, rfl⟩
  | false =>
    rw [hfl] at c2
    have hsiz := hP2.siz.1
    obtain ⟨g2, cap2, rfl, hg1, hg2⟩ := hown2.form (hne hfl)
    have HO2 := hide hown2
    have HR : Hid (readOut toks st = if 20 < innerD st.nodes then .err 3 0 else if 80 < st.nodes.length then .err 4 0 else .ok st.nodes) := by show readOut toks st = _; simp [readOut, hfl]
    have hb2 := hP2.lt
    clear hfl hP2 hB2 hown2 hblk c0 c1 c4 hf
    go_wp2_with fail
    refine (innerDepth_any st.nodes _ g2 cap2 _ hsiz hg2 (unhide HO2)).mono ?_
    rintro e w3 ⟨rfl, hB3⟩
    have c3' : w3.cell? ⟨w1.heap.size, 3, none⟩ = some (.slice (some ⟨g2, 0, none⟩) st.nodes.length cap2) := (hB3.cell (p := ⟨w1.heap.size, 3, none⟩) hb2).trans c3
    have HO3 := hide (row_keep (unhide HO2) (hB3.block g2 hg2))
    have HB3 : Hid (Below w.heap.size w w3) := (unhide HB2).trans (hB3.mono (by omega))
    have hsz3 := hB3.size
    clear hB3
    by_cases hd : 20 < innerD st.nodes
    · have HR2 : Hid (readOut toks st = .err 3 0) := by show readOut toks st = _; rw [unhide HR, if_pos hd]
      go_wp2_with fail
      go_ret3
      rw [unhide HR2]
      exact ⟨unhide HB3, rfl⟩
    · by_cases hb : 80 < st.nodes.length
      · have HR2 : Hid (readOut toks st = .err 4 0) := by show readOut toks st = _; rw [unhide HR, if_neg hd, if_pos hb]
        go_wp2_with fail
        go_ret3
        rw [unhide HR2]
        exact ⟨unhide HB3, rfl⟩
      · have HR2 : Hid (readOut toks st = .ok st.nodes) := by show readOut toks st = _; rw [unhide HR, if_neg hd, if_neg hb]
        go_wp2_with fail
        go_ret3
        rw [unhide HR2]
        exact ⟨unhide HB3, g2, cap2, rfl, by omega, row_base (unhide HO3) (by omega)⟩

end Go.Proofs.YtdaneedflpfeaabGreatDoor
