import Derived.Test.YtdaneedflpfeaaaDoorRead
namespace Go.Proofs.YtdaneedflpfeaaaDoor
set_option maxRecDepth 100000
open Go.RowKit

def st0 : PSt := ⟨0, false, [], 0⟩
theorem scanL_len (s : ByteArray) (i : Nat) (h : i ≤ s.size) : (scanL s i).length ≤ s.size - i + 1 := by
  induction i using scanL.induct s with
  | case1 i hi ih =>
    have h1 := aheadE_bd s i h
    have h2 := tokenE_bd s (aheadE s i) h1.2
    rw [scanL_go h rfl rfl hi.1, List.length_cons]
    have := ih h2.2
    omega
  | case2 i hi =>
    rw [scanL_stop rfl (fun g => hi ⟨g, h⟩)]
    simp

/-- What comes of a text of at most 600 bytes whose parser ends in a state. -/
inductive ROut where
  | err (e : Int) (p : Int)
  | ok (l : List Nd)
def readOut (toks : List Tok) (st : PSt) : ROut :=
  if st.failed then .err 2 (placeL toks st) else if 20 < innerD st.nodes then .err 3 0 else if 80 < st.nodes.length then .err 4 0 else .ok st.nodes
/-- What read answers, and where the nodes lie. -/
def RPost (w : World) (r : ROut) (e : Ending) (w' : World) : Prop :=
  Below w.heap.size w w' ∧ match r with
  | .err c p => e = .returned (.tuple #[.slice none 0 0, .int .i64 c, .int .i64 p])
  | .ok l => ∃ g cap, e = .returned (.tuple #[.slice (some ⟨g, 0, none⟩) l.length cap, .int .i64 0, .int .i64 0]) ∧ g < w'.heap.size ∧ w'.ownsRow w.heap.size 69 3 (.slice (some ⟨g, 0, none⟩) l.length cap) l.length (ndsCells l)

set_option maxHeartbeats 400000 in
theorem read_long (s : ByteArray) (w : World) (h : 600 < s.size) : Calls Tryd.prog 11 #[.string s] w fun e w' => RPost w (.err 1 0) e w' := by
  go_enter Tryd.func11, Tryd.ntmps11
  go_wp2_with fail
  go_ret3
  exact ⟨Below.refl _ _, rfl⟩

theorem ps_start {w w1 : World} {g cap : Nat} {toks : List Tok} (hf : toks.length ≤ 1000) (hg : g < w1.heap.size)
    (hown : w1.ownsRow w.heap.size 88 3 (.slice (some ⟨g, 0, none⟩) toks.length cap) toks.length (toksCells toks)) :
    PS w1.heap.size (.slice (some ⟨g, 0, none⟩) toks.length cap) toks (w1.alloc (.cells #[.slice (some ⟨g, 0, none⟩) toks.length cap, .int .i64 0, .bool false, .slice none 0 0, .int .i64 0] 65)) st0 :=
  ⟨⟨.slice none 0 0, heap_alloc_new _ _, World.ownsRow_nil _ _ _ _⟩, (row_base hown (Nat.zero_le _)).alloc _, ⟨g, cap, rfl, hg⟩, hf, Nat.zero_le _, ⟨Nat.zero_le _, by decide, by decide, fun x hx => by cases hx⟩⟩

set_option maxHeartbeats 1600000 in
theorem read_core (s : ByteArray) (w : World) (hs : s.size ≤ 600) (toks : List Tok) (ht : scanL s 0 = toks) (n : Nat) (st : PSt) (hP : P toks n .program st0 = some st) (hne : st.failed = false → 0 < st.nodes.length) :
    Calls Tryd.prog 11 #[.string s] w fun e w' => RPost w (readOut toks st) e w' := by
  have hlen := scanL_len s 0 (Nat.zero_le _)
  rw [ht] at hlen
  have HP := hide hP
  have HT := hide ht
  clear hP ht
  go_enter Tryd.func11, Tryd.ntmps11
  go_wp2_with fail
  refine (scan_any s _ hs).mono ?_
  rintro e w1 ⟨g, cap, rfl, hown, hbel, hg⟩
  rw [unhide HT] at hown ⊢
  have HS := hide (ps_start (by omega) hg hown)
  have HB := hide hbel
  have hsz := hbel.size
  clear hown hbel
  go_wp2_with fail
  refine Calls.mono (methods w1.heap.size _ toks n n (Nat.le_refl n) .program st0 st _ rfl (unhide HS) (unhide HP)) ?_
  rintro e w2 ⟨rfl, hP2, hB2⟩
  obtain ⟨nv, c0, c1, c2, c3, c4, hf, hown2, hblk⟩ := hP2.cells
  have HB2 : Hid (Below w.heap.size w w2) := ((unhide HB).alloc hsz _).trans (hB2.mono hsz)
  have hsz2 : w.heap.size < w2.heap.size := by have := (unhide HB2).size; have := hP2.lt; omega
  have HP2 := hide hP2
  cases hfl : st.failed with
  | true =>
    have HR : Hid (readOut toks st = .err 2 (placeL toks st)) := by show readOut toks st = _; simp [readOut, hfl]
    rw [hfl] at c2
    clear hfl hP2 hB2 hown2 hblk
    go_wp2_with fail
    refine (place_any w1.heap.size _ toks _ st (unhide HP2)).mono ?_
    rintro e w3 ⟨rfl, hB3⟩
    have HB3 : Hid (Below w.heap.size w w3) := (unhide HB2).trans (hB3.mono hsz)
    clear hB3
    go_wp2_with fail
    go_ret3
    rw [unhide HR]
    exact ⟨unhide HB3, rfl⟩
  | false =>
    rw [hfl] at c2
    have hsiz := hP2.siz.1
    obtain ⟨g2, cap2, rfl, hg1, hg2⟩ := hown2.form (hne hfl)
    have HO2 := hide hown2
    have HR : Hid (readOut toks st = if 20 < innerD st.nodes then .err 3 0 else if 80 < st.nodes.length then .err 4 0 else .ok st.nodes) := by show readOut toks st = _; simp [readOut, hfl]
    have hb2 := hP2.lt
    clear hfl hP2 hB2 hown2 hblk c0 c1 c4 hf
    go_wp2_with fail
    refine (innerDepth_any st.nodes _ g2 cap2 _ hsiz hg2 (unhide HO2)).mono ?_
    rintro e w3 ⟨rfl, hB3⟩
    have c3' : w3.cell? ⟨w1.heap.size, 3, none⟩ = some (.slice (some ⟨g2, 0, none⟩) st.nodes.length cap2) := (hB3.cell (p := ⟨w1.heap.size, 3, none⟩) hb2).trans c3
    have HO3 := hide (row_keep (unhide HO2) (hB3.block g2 hg2))
    have HB3 : Hid (Below w.heap.size w w3) := (unhide HB2).trans (hB3.mono (by omega))
    have hsz3 := hB3.size
    clear hB3
    by_cases hd : 20 < innerD st.nodes
    · have HR2 : Hid (readOut toks st = .err 3 0) := by show readOut toks st = _; rw [unhide HR, if_pos hd]
      go_wp2_with fail
      go_ret3
      rw [unhide HR2]
      exact ⟨unhide HB3, rfl⟩
    · by_cases hb : 80 < st.nodes.length
      · have HR2 : Hid (readOut toks st = .err 4 0) := by show readOut toks st = _; rw [unhide HR, if_neg hd, if_pos hb]
        go_wp2_with fail
        go_ret3
        rw [unhide HR2]
        exact ⟨unhide HB3, rfl⟩
      · have HR2 : Hid (readOut toks st = .ok st.nodes) := by show readOut toks st = _; rw [unhide HR, if_neg hd, if_neg hb]
        go_wp2_with fail
        go_ret3
        rw [unhide HR2]
        exact ⟨unhide HB3, g2, cap2, rfl, by omega, row_base (unhide HO3) (by omega)⟩

end Go.Proofs.YtdaneedflpfeaaaDoor
