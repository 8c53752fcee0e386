import Derived.Test.YtdaneedflpfeaaaGreatDoorStr
import Derived.Test.YtdaneedflpfeaaaGreatDoorRefNode
import Derived.Test.YtdaneedflpfeaaaGreatDoorOut
namespace Go.Proofs.YtdaneedflpfeaaaGreatDoor
set_option maxRecDepth 100000
open Go.RowKit

theorem conv_block (w : World) (B cap : Nat) (l : List UInt8) (h : w.heap[B]? = some (.cells (u8s l).toArray 5 (0, 0))) : (convert 119 9 (.slice (some ⟨B, 0, none⟩) l.length cap)).run Tryz.prog w = .ok (.string (mk l)) w := by
  refine run_convert_bytes_back (l := l) w 119 9 5 ⟨B, 0, none⟩ cap Tryz.underlying119 Tryz.underlying5 Tryz.underlying9 (fun j hj => ?_)
  exact news_of h j _ (by simp [u8s, hj])

set_option maxHeartbeats 1600000 in
set_option maxRecDepth 100000 in
theorem refWritten_92 (w : World) :
    Calls Tryz.prog 71 #[.int .u8 92] w fun e w' => e = .returned (.string (mk (escB 92))) ∧ Below w.heap.size w w' := by
  have hcv : (convert 119 9 (.slice (some ⟨w.heap.size, 0, none⟩) 4 4)).run Tryz.prog (w.alloc (.cells #[.int .u8 92, .int .u8 120, .int .u8 ((hexS[5]'(by decide)).toNat : Int), .int .u8 ((hexS[12]'(by decide)).toNat : Int)] 5 (0, 0))).drew = .ok (.string (mk (escB 92))) (w.alloc (.cells #[.int .u8 92, .int .u8 120, .int .u8 ((hexS[5]'(by decide)).toNat : Int), .int .u8 ((hexS[12]'(by decide)).toNat : Int)] 5 (0, 0))).drew := by
    rw [show escB 92 = (92 : UInt8) :: 120 :: [hexS[5]'(by decide), hexS[12]'(by decide)] from by decide]
    exact conv_block _ _ 4 [92, 120, hexS[5]'(by decide), hexS[12]'(by decide)] (heap_alloc_new _ _)
  generalize mk (escB 92) = out at *
  go_enter Tryz.func71, Tryz.ntmps71
  go_wp2_with fail
  go_region
  all_goals go_wp2_with fail
  all_goals go_ret
  all_goals exact ⟨rfl, ((Below.refl _ _).alloc (Nat.le_refl _) _).drew⟩
set_option maxHeartbeats 1600000 in
set_option maxRecDepth 100000 in
theorem refWritten_40 (w : World) :
    Calls Tryz.prog 71 #[.int .u8 40] w fun e w' => e = .returned (.string (mk (escB 40))) ∧ Below w.heap.size w w' := by
  have hcv : (convert 119 9 (.slice (some ⟨w.heap.size, 0, none⟩) 4 4)).run Tryz.prog (w.alloc (.cells #[.int .u8 92, .int .u8 120, .int .u8 ((hexS[2]'(by decide)).toNat : Int), .int .u8 ((hexS[8]'(by decide)).toNat : Int)] 5 (0, 0))).drew = .ok (.string (mk (escB 40))) (w.alloc (.cells #[.int .u8 92, .int .u8 120, .int .u8 ((hexS[2]'(by decide)).toNat : Int), .int .u8 ((hexS[8]'(by decide)).toNat : Int)] 5 (0, 0))).drew := by
    rw [show escB 40 = (92 : UInt8) :: 120 :: [hexS[2]'(by decide), hexS[8]'(by decide)] from by decide]
    exact conv_block _ _ 4 [92, 120, hexS[2]'(by decide), hexS[8]'(by decide)] (heap_alloc_new _ _)
  generalize mk (escB 40) = out at *
  go_enter Tryz.func71, Tryz.ntmps71
  go_wp2_with fail
  go_region
  all_goals go_wp2_with fail
  all_goals go_ret
  all_goals exact ⟨rfl, ((Below.refl _ _).alloc (Nat.le_refl _) _).drew⟩
set_option maxHeartbeats 1600000 in
set_option maxRecDepth 100000 in
theorem refWritten_41 (w : World) :
    Calls Tryz.prog 71 #[.int .u8 41] w fun e w' => e = .returned (.string (mk (escB 41))) ∧ Below w.heap.size w w' := by
  have hcv : (convert 119 9 (.slice (some ⟨w.heap.size, 0, none⟩) 4 4)).run Tryz.prog (w.alloc (.cells #[.int .u8 92, .int .u8 120, .int .u8 ((hexS[2]'(by decide)).toNat : Int), .int .u8 ((hexS[9]'(by decide)).toNat : Int)] 5 (0, 0))).drew = .ok (.string (mk (escB 41))) (w.alloc (.cells #[.int .u8 92, .int .u8 120, .int .u8 ((hexS[2]'(by decide)).toNat : Int), .int .u8 ((hexS[9]'(by decide)).toNat : Int)] 5 (0, 0))).drew := by
    rw [show escB 41 = (92 : UInt8) :: 120 :: [hexS[2]'(by decide), hexS[9]'(by decide)] from by decide]
    exact conv_block _ _ 4 [92, 120, hexS[2]'(by decide), hexS[9]'(by decide)] (heap_alloc_new _ _)
  generalize mk (escB 41) = out at *
  go_enter Tryz.func71, Tryz.ntmps71
  go_wp2_with fail
  go_region
  all_goals go_wp2_with fail
  all_goals go_ret
  all_goals exact ⟨rfl, ((Below.refl _ _).alloc (Nat.le_refl _) _).drew⟩
theorem u8_of {c : UInt8} {n : Nat} (h : (c.toNat : Int) = n) (hn : n < 256) : c = UInt8.ofNat n := by
  apply UInt8.toNat_inj.1
  rw [UInt8.toNat_ofNat']; omega
set_option maxHeartbeats 1600000 in
set_option maxRecDepth 100000 in
/-- The document's way to write a byte is ours. -/
theorem refWritten_any (c : UInt8) (w : World) :
    Calls Tryz.prog 71 #[.int .u8 (c.toNat : Int)] w fun e w' => e = .returned (.string (mk (escB c))) ∧ Below w.heap.size w w' := by
  have hb : ((c.toNat : Nat) : Int) ≤ 255 := by have := c.toNat_lt; omega
  by_cases h92 : (c.toNat : Int) = 92
  · have := u8_of (n := 92) h92 (by decide); subst this; exact refWritten_92 w
  by_cases h40 : (c.toNat : Int) = 40
  · have := u8_of (n := 40) h40 (by decide); subst this; exact refWritten_40 w
  by_cases h41 : (c.toNat : Int) = 41
  · have := u8_of (n := 41) h41 (by decide); subst this; exact refWritten_41 w
  cases hpl : plainB (c.toNat : Int) with
  | true =>
    have HE : Hid (escB c = [c]) := by show escB c = _; rw [escB, if_pos hpl]
    have hp : 33 ≤ (c.toNat : Int) ∧ (c.toNat : Int) ≤ 126 ∧ (c.toNat : Int) ≠ 92 ∧ (c.toNat : Int) ≠ 40 ∧ (c.toNat : Int) ≠ 41 := of_decide_eq_true hpl
    obtain ⟨p1, p2, p3, p4, p5⟩ := hp
    have q1 : (32 : Int) < (c.toNat : Int) := by omega
    have q2 : (c.toNat : Int) < 127 := by omega
    have q3 : ((c.toNat : Int) != 92) = true := bne_iff_ne.2 p3
    have q4 : ((c.toNat : Int) != 40) = true := bne_iff_ne.2 p4
    have q5 : ((c.toNat : Int) != 41) = true := bne_iff_ne.2 p5
    have hcv : (convert 119 9 (.slice (some ⟨w.heap.size, 0, none⟩) 1 1)).run Tryz.prog (w.alloc (.cells #[.int .u8 (c.toNat : Int)] 5 (0, 0))) = .ok (.string (mk [c])) (w.alloc (.cells #[.int .u8 (c.toNat : Int)] 5 (0, 0))) := conv_block _ _ 1 [c] (heap_alloc_new _ _)
    clear hpl p1 p2 p3 p4 p5
    go_enter Tryz.func71, Tryz.ntmps71
    go_wp2_with fail
    go_ret
    exact ⟨ret_str (by rw [unhide HE]), (Below.refl _ _).alloc (Nat.le_refl _) _⟩
  | false =>
    obtain ⟨q, hq, hq16, HQ⟩ : ∃ q : Nat, IntKind.u8.wrap ((c.toNat : Int) / 16) = (q : Int) ∧ (q : Int) < 16 ∧ Hid (q = c.toNat / 16) := ⟨c.toNat / 16, by unfold IntKind.wrap; simp [IntKind.signed, IntKind.bits]; omega, by omega, rfl⟩
    obtain ⟨r, hr, hr16, HR⟩ : ∃ r : Nat, ((c.toNat : Int).tmod 16) = (r : Int) ∧ (r : Int) < 16 ∧ Hid (r = c.toNat % 16) := ⟨c.toNat % 16, by rw [Int.tmod_eq_emod_of_nonneg (by omega)]; omega, by omega, rfl⟩
    have HE : Hid (escB c = [92, 120, hexS[q]'(by show q < 16; omega), hexS[r]'(by show r < 16; omega)]) := by
      show escB c = _
      rw [escB, hpl, hex_at q (by show q < 16; omega), hex_at r (by show r < 16; omega), unhide HQ, unhide HR]; rfl
    have hcv : (convert 119 9 (.slice (some ⟨w.heap.size, 0, none⟩) 4 4)).run Tryz.prog (w.alloc (.cells #[.int .u8 92, .int .u8 120, .int .u8 ((hexS[q]'(by show q < 16; omega)).toNat : Int), .int .u8 ((hexS[r]'(by show r < 16; omega)).toNat : Int)] 5 (0, 0))).drew = .ok (.string (mk (escB c))) (w.alloc (.cells #[.int .u8 92, .int .u8 120, .int .u8 ((hexS[q]'(by show q < 16; omega)).toNat : Int), .int .u8 ((hexS[r]'(by show r < 16; omega)).toNat : Int)] 5 (0, 0))).drew := by
      rw [unhide HE]
      exact conv_block _ _ 4 [92, 120, hexS[q]'(by show q < 16; omega), hexS[r]'(by show r < 16; omega)] (heap_alloc_new _ _)
    have hp : ¬ (33 ≤ (c.toNat : Int) ∧ (c.toNat : Int) ≤ 126 ∧ (c.toNat : Int) ≠ 92 ∧ (c.toNat : Int) ≠ 40 ∧ (c.toNat : Int) ≠ 41) := of_decide_eq_false hpl
    have HP := hide hp
    clear hpl hp HE
    generalize mk (escB c) = out at *
    go_enter Tryz.func71, Tryz.ntmps71
    go_wp2_with fail
    all_goals first
      | (exfalso; have := unhide HP; simp at *; omega)
      | skip
    all_goals go_region
    all_goals go_wp2_with fail
    all_goals go_ret
    all_goals exact ⟨rfl, ((Below.refl _ _).alloc (Nat.le_refl _) _).drew⟩

end Go.Proofs.YtdaneedflpfeaaaGreatDoor

namespace Go.Proofs.YtdaneedflpfeaaaGreatDoor
set_option maxRecDepth 100000
open Go.RowKit

theorem labelL_rw (d : Int) (r : Rw) : labelL (toNd d r) = if r.inner then 64 :: r.text.data.toList else 39 :: escL r.text.data.toList := rfl
/-- The cells of a row in memory of its own. -/
abbrev rwA (r : Rw) : Array Value := #[.int .i64 (r.deep : Int), .bool (!r.inner), .string r.text]

set_option maxHeartbeats 1600000 in
theorem refLabel_any (r : Rw) (b : Bool) (hb : b = !r.inner) (w : World) (hs : r.text.size ≤ 1000000) :
    Calls Tryz.prog 55 #[.agg #[.int .i64 (r.deep : Int), .bool b, .string r.text]] w fun e w' => e = .returned (.string (mk (labelL (toNd 1 r)))) ∧ Below w.heap.size w w' := by
  cases hi : r.inner with
  | true =>
    rw [hi] at hb
    have hb' : b = false := hb
    subst hb'
    have HF : Hid ((⟨#[64]⟩ : ByteArray) ++ r.text = mk (labelL (toNd 1 r))) := by show mk [64] ++ r.text = _; rw [cat_mk, labelL_rw]; simp [hi]
    clear hi hb
    go_enter Tryz.func55, Tryz.ntmps55
    go_wp2_with fail
    go_ret
    exact ⟨ret_str (unhide HF), (Below.refl _ _).alloc (Nat.le_refl _) _⟩
  | false =>
    rw [hi] at hb
    have hb' : b = true := hb
    subst hb'
    have HF : Hid (labelL (toNd 1 r) = 39 :: escL r.text.data.toList) := by show labelL _ = _; rw [labelL_rw]; simp [hi]
    clear hi hb
    go_enter Tryz.func55, Tryz.ntmps55
    go_wp2_with fail
    go_loopw [3, 4] (fun v i wr => ∃ (k : Nat) (o : ByteArray), k ≤ r.text.size ∧ i = .int .i64 k ∧ v = .string o ∧ Hid (o = mk (39 :: escL (r.text.data.toList.take k))) ∧ o.size ≤ 4 * k + 1 ∧ Below w.heap.size w wr ∧ w.heap.size < wr.heap.size ∧ Hid (wr.heap[w.heap.size]? = some (.cells #[.int .i64 (r.deep : Int), .bool true, .string r.text] 51 (0, 0)))) (fun _ i _ => r.text.size - (intOf i).toNat)
    case atStart => exact ⟨0, _, Nat.zero_le _, rfl, rfl, rfl, Nat.le_refl _, (Below.refl _ _).alloc (Nat.le_refl _) _, by simp, heap_alloc_new _ _⟩
    case round =>
      obtain ⟨k, o, hk, rfl, rfl, HO, hos, hB, hlt0, HC⟩ := hrel
      have HB := hide hB
      have hsz := hB.size
      have d2 : wr.cell? ⟨w.heap.size, 2, none⟩ = some (.string r.text) := news_of (unhide HC) 2 _ rfl
      clear hB
      by_cases hlt : k < r.text.size
      · have HT := hide (take_snocB r.text k hlt)
        have hel : (mk (escB r.text[k])).size ≤ 4 := by rw [mk_size]; exact escB_len _
        have HX : Hid (o ++ mk (escB r.text[k]) = mk (39 :: escL (r.text.data.toList.take (k + 1)))) := by
          show o ++ mk (escB r.text[k]) = _
          rw [unhide HO, unhide HT, mk_append, escL_snoc]; rfl
        have HW := hide (fun wx => refWritten_any r.text[k] wx)
        generalize mk (escB r.text[k]) = eb at *
        clear HT HO
        go_wp2_with fail
        refine (unhide HW _).mono ?_
        rintro e w1 ⟨rfl, hB1⟩
        have HB1 : Hid (Below w.heap.size w w1) := (unhide HB).trans (hB1.mono hsz)
        have HC1 : Hid (w1.heap[w.heap.size]? = some (.cells #[.int .i64 (r.deep : Int), .bool true, .string r.text] 51 (0, 0))) := (hB1.block _ hlt0).trans (unhide HC)
        have hlt1 : w.heap.size < w1.heap.size := by have := hB1.size; omega
        clear hB1
        go_wp2_with fail
        go_roundw
        case rel => exact ⟨k + 1, _, by omega, by go_num, rfl, HX, by rw [ByteArray.size_append]; omega, unhide HB1, hlt1, HC1⟩
        case measure => simp [intOf]; omega
      · have HT : Hid (r.text.data.toList.take k = r.text.data.toList) := List.take_of_length_le (by show r.text.size ≤ k; omega)
        go_wp2_with fail
        go_ret
        exact ⟨ret_str (by rw [unhide HO, unhide HT, unhide HF]), unhide HB⟩

/-- A tree's rows as a text, behind the root's beginning. -/
def sAcc (kp : ByteArray) (l : List Rw) : WAcc := (l.map (toNd 1)).foldl wStep (40 :: 64 :: kp.data.toList, 1, false)
theorem sAcc_snoc (kp : ByteArray) (l : List Rw) (x : Rw) : sAcc kp (l ++ [x]) = wStep (sAcc kp l) (toNd 1 x) := by simp [sAcc]
theorem sAcc_root (kp : ByteArray) (l : List Rw) : wAcc ((nodeR kp l).map (toNd 0)) = sAcc kp l := by
  rw [map_node]; simp [wAcc, sAcc, wStep, labelL, parens]
theorem sAcc_first (kp : ByteArray) (l : List Rw) : (sAcc kp l).2.2 = false := by
  rcases List.eq_nil_or_concat l with rfl | ⟨l, x, rfl⟩
  · rfl
  · rw [List.concat_eq_append, sAcc_snoc]; rfl
theorem sAcc_step {kp : ByteArray} {l : List Rw} {x : Rw} {o : Nat} (ho : (sAcc kp l).2.1 = (o : Int) + 1) (hx : x.deep ≤ o) :
    (sAcc kp (l ++ [x])).1 = (sAcc kp l).1 ++ parens (o - x.deep) ++ [32] ++ (if x.inner then [40] else []) ++ labelL (toNd 1 x) ∧ (sAcc kp (l ++ [x])).2.1 = ((if x.inner then x.deep + 1 else x.deep : Nat) : Int) + 1 := by
  have e : ((o : Int) + 1 - (1 + (x.deep : Int))).toNat = o - x.deep := by omega
  rw [sAcc_snoc]
  cases hi : x.inner
  · simp only [wStep, sAcc_first, ho, show (toNd 1 x).inner = false from hi, show (toNd 1 x).depth = 1 + (x.deep : Int) from rfl, e]
    exact ⟨by simp, by simp; omega⟩
  · simp only [wStep, sAcc_first, ho, show (toNd 1 x).inner = true from hi, show (toNd 1 x).depth = 1 + (x.deep : Int) from rfl, e]
    exact ⟨by simp, by simp; omega⟩
theorem RC_drop {o : Nat} {l : List Rw} {x : Rw} {k : Nat} (h : RC o (l.drop k)) (hx : l[k]? = some x) : x.deep ≤ o ∧ RC (if x.inner then x.deep + 1 else x.deep) (l.drop (k + 1)) := by
  have hlt : k < l.length := by
    rcases Nat.lt_or_ge k l.length with g | g
    · exact g
    · rw [List.getElem?_eq_none g] at hx; cases hx
  rw [List.drop_eq_getElem_cons hlt] at h
  rw [List.getElem?_eq_getElem hlt] at hx
  obtain rfl := Option.some.inj hx
  exact h

end Go.Proofs.YtdaneedflpfeaaaGreatDoor

namespace Go.Proofs.YtdaneedflpfeaaaGreatDoor
set_option maxRecDepth 100000
open Go.RowKit

def kProg : ByteArray := ⟨#[112, 114, 111, 103, 114, 97, 109]⟩
theorem parens_next (j : Nat) : mk (parens (j + 1)) = mk (parens j) ++ mk [41] := by rw [mk_append, parens, parens, List.replicate_succ']
set_option maxHeartbeats 6400000 in
/-- The document's Show of rows. -/
theorem refShow_any (l : List Rw) (base g cap : Nat) (w : World) (hl : l.length ≤ 1000) (hx : ∀ x ∈ l, x.deep ≤ 1000 ∧ x.text.size ≤ 1000) (hrc : RC 0 l) (hg : g < w.heap.size) (hown : w.ownsRow base 51 3 (.slice (some ⟨g, 0, none⟩) l.length cap) l.length (rwsCells l)) :
    Calls Tryz.prog 33 #[.slice (some ⟨g, 0, none⟩) l.length cap] w fun e w' => e = .returned (.string (mk (writtenL ((nodeR kProg l).map (toNd 0))))) ∧ Below w.heap.size w w' := by
  have HO := hide hown
  have HX := hide hx
  have HRC := hide hrc
  clear hown hx hrc
  go_enter Tryz.func33, Tryz.ntmps33
  go_wp2_with fail
  go_loopw [3, 4, 6, 9] (fun v d _ i wr => ∃ (k o : Nat) (ob : ByteArray), k ≤ l.length ∧ i = .int .i64 k ∧ v = .string ob ∧ Hid (ob = mk (sAcc kProg (l.take k)).1) ∧ ob.size ≤ k * 10000 + 100 ∧ d = .int .i64 ((o : Int) - 1) ∧ Hid ((sAcc kProg (l.take k)).2.1 = (o : Int) + 1) ∧ Hid (RC o (l.drop k)) ∧ o ≤ 2000 ∧ Below w.heap.size w wr) (fun _ _ _ i _ => l.length - (intOf i).toNat)
  case atStart => exact ⟨0, 0, _, Nat.zero_le _, rfl, rfl, rfl, by decide, rfl, rfl, HRC, by omega, Below.refl _ _⟩
  case round =>
    obtain ⟨k, o, ob, hk, rfl, rfl, HOB, hos, rfl, HD, HR, ho2, hB⟩ := hrel
    have HB := hide hB
    have hsz := hB.size
    have hgr : g < wr.heap.size := by omega
    by_cases hlt : k < l.length
    · obtain ⟨r0, r1, r2⟩ := rw_cells (row_keep (unhide HO) (hB.block g hg)) k hlt
      have hxk := unhide HX _ (List.getElem_mem hlt)
      have HT : Hid (l.take (k + 1) = l.take k ++ [l[k]]) := List.take_succ_eq_append_getElem hlt
      have hrd := RC_drop (unhide HR) (List.getElem?_eq_getElem hlt)
      have hdo := hrd.1
      have HR2 := hide hrd.2
      have HST := hide (sAcc_step (unhide HD) hdo)
      clear hB hrd HR
      generalize l[k]'hlt = r at *
      obtain ⟨hxd, hxt⟩ := hxk
      obtain ⟨lb, hlb⟩ : ∃ lb, lb = mk (labelL (toNd 1 r)) := ⟨_, rfl⟩
      have hls : lb.size ≤ 4001 := by
        rw [hlb, mk_size, labelL_rw]
        have := escL_len r.text.data.toList
        have h2 : r.text.data.toList.length = r.text.size := rfl
        split
        · simp only [List.length_cons]; omega
        · simp only [List.length_cons]; omega
      have HLB := hide hlb
      have HLA : Hid (∀ wx b, (b = !r.inner) → Calls Tryz.prog 55 #[.agg #[.int .i64 (r.deep : Int), .bool b, .string r.text]] wx fun e w' => e = .returned (.string lb) ∧ Below wx.heap.size wx w') := fun wx b hbb => by rw [hlb]; exact refLabel_any r b hbb wx (by omega)
      clear hlb
      go_wp2_with fail
      go_loop [3, 4] (fun v d => ∃ (j : Nat) (ob2 : ByteArray), j ≤ o - r.deep ∧ v = .string ob2 ∧ Hid (ob2 = ob ++ mk (parens j)) ∧ ob2.size = ob.size + j ∧ d = .int .i64 ((o : Int) - 1 - j)) (fun _ d => ((intOf d) + 1).toNat)
      case atStart => exact ⟨0, ob, Nat.zero_le _, rfl, (cat_nil ob).symm, rfl, by go_num⟩
      case round =>
        obtain ⟨j, ob2, hj, rfl, HO2, hs2, rfl⟩ := hrel
        have hb2 : ob2.size ≤ 10003000 := by omega
        by_cases hge : (r.deep : Int) ≤ (o : Int) - 1 - (j : Int)
        · have HS2 := hide hs2
          clear hs2
          go_wp2_with fail
          go_round
          case rel =>
            refine ⟨j + 1, ob2 ++ ⟨#[41]⟩, by omega, rfl, ?_, ?_, by go_num⟩
            · show ob2 ++ mk [41] = _
              rw [unhide HO2, parens_next, ByteArray.append_assoc]
            · rw [ByteArray.size_append, unhide HS2]; rfl
          case measure => simp [intOf]; omega
        · have hje : j = o - r.deep := by omega
          have HFIN : Hid (∀ c : List UInt8, (if r.inner then [40] else []) = c → ob2 ++ mk [32] ++ mk c ++ lb = mk (sAcc kProg (l.take (k + 1))).1) := by
            intro c hc
            rw [unhide HT, (unhide HST).1, unhide HO2, unhide HLB, hje, unhide HOB, hc]
            simp only [mk_append]
          have HD2 : Hid ((sAcc kProg (l.take (k + 1))).2.1 = ((if r.inner then r.deep + 1 else r.deep : Nat) : Int) + 1) := by
            show _ = _
            rw [unhide HT, (unhide HST).2]
          have hbk : ob2.size ≤ k * 10000 + 2100 := by omega
          clear hs2 hje HO2 HST HOB HT
          cases hin : r.inner with
          | true =>
            rw [hin] at r1
            have HW : Hid (mk (sAcc kProg (l.take (k + 1))).1 = ((ob2 ++ ⟨#[32]⟩) ++ ⟨#[40]⟩) ++ lb) := (unhide HFIN [40] (by simp [hin])).symm
            have HR3 : Hid (RC (r.deep + 1) (l.drop (k + 1))) := by have := unhide HR2; rw [hin] at this; exact this
            have HD3 : Hid ((sAcc kProg (l.take (k + 1))).2.1 = ((r.deep + 1 : Nat) : Int) + 1) := by have := unhide HD2; rw [hin] at this; exact this
            have HLA2 := hide (fun wx => unhide HLA wx false (by rw [hin]; rfl))
            clear hin HFIN HR2 HD2
            go_wp2_with fail
            refine (unhide HLA2 _).mono ?_
            rintro e w1 ⟨rfl, hB1⟩
            have HB1 : Hid (Below w.heap.size w w1) := ((unhide HB).alloc hsz _).trans (hB1.mono (by simp; omega))
            clear hB1
            go_wp2_with fail
            go_roundw
            case rel => exact ⟨k + 1, r.deep + 1, _, by omega, by go_num, rfl, (unhide HW).symm, by simp only [ByteArray.size_append]; show ob2.size + 1 + 1 + lb.size ≤ _; omega, by go_num, HD3, HR3, by omega, unhide HB1⟩
            case measure => simp [intOf]; omega
          | false =>
            rw [hin] at r1
            have HW : Hid (mk (sAcc kProg (l.take (k + 1))).1 = (ob2 ++ ⟨#[32]⟩) ++ lb) := by
              have hfin := unhide HFIN [] (by simp [hin])
              rw [cat_nil] at hfin
              exact hfin.symm
            have HR3 : Hid (RC r.deep (l.drop (k + 1))) := by have := unhide HR2; rw [hin] at this; exact this
            have HD3 : Hid ((sAcc kProg (l.take (k + 1))).2.1 = (r.deep : Int) + 1) := by have := unhide HD2; rw [hin] at this; exact this
            have HLA2 := hide (fun wx => unhide HLA wx true (by rw [hin]; rfl))
            clear hin HFIN HR2 HD2
            go_wp2_with fail
            refine (unhide HLA2 _).mono ?_
            rintro e w1 ⟨rfl, hB1⟩
            have HB1 : Hid (Below w.heap.size w w1) := ((unhide HB).alloc hsz _).trans (hB1.mono (by simp; omega))
            clear hB1
            go_wp2_with fail
            go_roundw
            case rel => exact ⟨k + 1, r.deep, _, by omega, by go_num, rfl, (unhide HW).symm, by simp only [ByteArray.size_append]; show ob2.size + 1 + lb.size ≤ _; omega, by go_num, HD3, HR3, by omega, unhide HB1⟩
            case measure => simp [intOf]; omega
    · have HT : Hid (l.take k = l) := List.take_of_length_le (by omega)
      have HFIN : Hid (ob ++ mk (parens (o + 1)) = mk (writtenL ((nodeR kProg l).map (toNd 0)))) := by
        show ob ++ mk (parens (o + 1)) = _
        rw [writtenL, sAcc_root, unhide HOB, mk_append, unhide HT]
        have hd := unhide HD
        rw [unhide HT] at hd
        rw [hd]; rfl
      clear HT HD HR HOB hB
      go_wp2_with fail
      go_loop [3, 4] (fun v d => ∃ (j : Nat) (ob2 : ByteArray), j ≤ o + 1 ∧ v = .string ob2 ∧ Hid (ob2 = ob ++ mk (parens j)) ∧ ob2.size = ob.size + j ∧ d = .int .i64 ((o : Int) - 1 - j)) (fun _ d => ((intOf d) + 2).toNat)
      case atStart => exact ⟨0, ob, Nat.zero_le _, rfl, (cat_nil ob).symm, rfl, by go_num⟩
      case round =>
        obtain ⟨j, ob2, hj, rfl, HO2, hs2, rfl⟩ := hrel
        have hb2 : ob2.size ≤ 10004000 := by omega
        by_cases hge : (-1 : Int) ≤ (o : Int) - 1 - (j : Int)
        · have HS2 := hide hs2
          clear hs2
          go_wp2_with fail
          go_round
          case rel =>
            refine ⟨j + 1, ob2 ++ ⟨#[41]⟩, by omega, rfl, ?_, ?_, by go_num⟩
            · show ob2 ++ mk [41] = _
              rw [unhide HO2, parens_next, ByteArray.append_assoc]
            · rw [ByteArray.size_append, unhide HS2]; rfl
          case measure => simp [intOf]; omega
        · have hje : j = o + 1 := by omega
          go_wp2_with fail
          go_ret
          exact ⟨ret_str (by rw [unhide HO2, hje, unhide HFIN]), unhide HB⟩

end Go.Proofs.YtdaneedflpfeaaaGreatDoor
