import Derived.Test.YtdaneedflpfeaabGreatDoorPatQ
import Derived.Test.YtdaneedflpfeaabGreatDoorDistC
import Derived.Deep.OwnRows
import Derived.Laws.StructEq
namespace Go.Proofs.YtdaneedflpfeaabGreatDoor
set_option maxRecDepth 100000
open Go.RowKit

theorem Tryz.infoInt : (Tryz.prog.info? 3).map (fun i => (i.zero, i.size, i.bytes)) = some (some (.int .i64 0), 1, 8) := by kernel_rfl
theorem Tryz.infoInts : (Tryz.prog.info? 57).map (fun i => (i.zero, i.size, i.bytes)) = some (some (.slice none 0 0), 1, 24) := by kernel_rfl

/-- A table: rows of numbers, each in a block of its own. -/
structure Tab (w : World) (B g R C : Nat) (h : Nat → Nat) (f : Nat → Nat → Int) : Prop where
  base : B ≤ g
  lt : g < w.heap.size
  outer : ∀ r, r < R → w.cell? ⟨g, r, none⟩ = some (.slice (some ⟨h r, 0, none⟩) C C)
  row : ∀ r, r < R → w.rowIs (h r) 3 C (fun c => .int .i64 (f r c))
  rb : ∀ r, r < R → B ≤ h r ∧ h r ≠ g
  inj : ∀ r s, r < s → s < R → h r < h s
theorem Tab.below {w w' : World} {B B' g R C : Nat} {h : Nat → Nat} {f : Nat → Nat → Int} (t : Tab w B g R C h f) (hb : Below B' w w') (hg : g < B') (hh : ∀ r, r < R → h r < B') : Tab w' B g R C h f where
  base := t.base
  lt := by have := hb.size; have := t.lt; omega
  outer r hr := (cell_heap (hb.block g hg)).trans (t.outer r hr)
  row r hr := (t.row r hr).of_block (hb.block _ (hh r hr))
  rb := t.rb
  inj := t.inj
theorem Tab.all {w w' : World} {B g R C : Nat} {h : Nat → Nat} {f : Nat → Nat → Int} (t : Tab w B g R C h f) (hb : Below w.heap.size w w') : Tab w' B g R C h f :=
  t.below hb t.lt (fun r hr => (t.row r hr).lt)
theorem Tab.mono {w : World} {B B' g R C : Nat} {h : Nat → Nat} {f : Nat → Nat → Int} (t : Tab w B g R C h f) (hb : B' ≤ B) : Tab w B' g R C h f :=
  ⟨by have := t.base; omega, t.lt, t.outer, t.row, fun r hr => by have := t.rb r hr; exact ⟨by omega, this.2⟩, t.inj⟩
theorem Tab.cell {w : World} {B g R C : Nat} {h : Nat → Nat} {f : Nat → Nat → Int} (t : Tab w B g R C h f) {r c : Nat} (hr : r < R) (hc : c < C) : w.cell? ⟨h r, c, none⟩ = some (.int .i64 (f r c)) := (t.row r hr).cell hc
theorem Tab.frozen {w : World} {B g R C : Nat} {h : Nat → Nat} {f : Nat → Nat → Int} (t : Tab w B g R C h f) {r c : Nat} (hr : r < R) : w.frozen? ⟨h r, c, none⟩ = false := (t.row r hr).frozen c
theorem Tab.congr {w : World} {B g R C : Nat} {h : Nat → Nat} {f f' : Nat → Nat → Int} (t : Tab w B g R C h f) (e : ∀ r c, r < R → c < C → f r c = f' r c) : Tab w B g R C h f' :=
  ⟨t.base, t.lt, t.outer, fun r hr => (t.row r hr).congr fun c hc => by rw [e r c hr hc], t.rb, t.inj⟩
theorem Tab.set {w : World} {B g R C : Nat} {h : Nat → Nat} {f : Nat → Nat → Int} (t : Tab w B g R C h f) {i j : Nat} (hi : i < R) (v : Int) :
    Tab (w.setCell ⟨h i, j, none⟩ (.int .i64 v)) B g R C h (fun r c => if r = i ∧ c = j then v else f r c) where
  base := t.base
  lt := by rw [Go.Deep.nblk_setCell]; exact t.lt
  outer r hr := by
    rw [← t.outer r hr]
    exact cell_heap (Below.heap_setCell _ _ _ _ (fun e => (t.rb i hi).2 e.symm))
  row r hr := by
    by_cases e : r = i
    · subst e
      refine ((t.row r hr).set j (.int .i64 v)).congr fun c hc => ?_
      by_cases q : c = j
      · simp [q]
      · simp [q]
    · have hne : h r ≠ h i := by
        rcases Nat.lt_or_ge r i with q | q
        · have := t.inj r i q hi; omega
        · have := t.inj i r (by omega) hr; omega
      refine ((t.row r hr).setOther (a := ⟨h i, j, none⟩) hne _).congr fun c hc => ?_
      simp [e]
  rb := t.rb
  inj := t.inj
theorem Tab.draw {w : World} {B g R C : Nat} {h : Nat → Nat} {f : Nat → Nat → Int} (t : Tab w B g R C h f) : Tab w.drew B g R C h f := ⟨t.base, t.lt, t.outer, t.row, t.rb, t.inj⟩

/-- Its making: so many rows. -/
def rowsV (C : Nat) (h : Nat → Nat) (k : Nat) : List Value := (List.range k).map fun r => .slice (some ⟨h r, 0, none⟩) C C
structure Rws (w : World) (B C : Nat) (v : Value) (k : Nat) (h : Nat → Nat) : Prop where
  own : w.ownsRow B 57 1 v k (rowsV C h k)
  row : ∀ r, r < k → w.rowIs (h r) 3 C (fun _ => .int .i64 0)
  rb : ∀ r, r < k → B ≤ h r ∧ v.ownBlock ≠ some (h r)
  inj : ∀ r s, r < s → s < k → h r < h s
theorem Rws.step {w w2 : World} {B C k g cap : Nat} {v : Value} {h : Nat → Nat} (t : Rws w B C v k h) (hB : B ≤ w.heap.size) (o : Obj)
    (hg : ((w.alloc (.cells (madeCells #[.int .i64 0] C) 3)).alloc o).grownBy w2 v.ownBlock)
    (ho : w2.ownsRow B 57 1 (.slice (some ⟨g, 0, none⟩) (k + 1) cap) (k + 1) (rowsV C h k ++ [.slice (some ⟨w.heap.size, 0, none⟩) C C]))
    (hw : v.ownBlock = some g ∨ g = w.heap.size + 1 + 1) : Rws w2 B C (.slice (some ⟨g, 0, none⟩) (k + 1) cap) (k + 1) (fun r => if r = k then w.heap.size else h r) := by
  have hs : ∀ j, v.ownBlock = some j → j < w.heap.size := fun j hj => (t.own.lt j hj).2
  have hkept : ∀ b, b < w.heap.size + 1 → some b ≠ v.ownBlock → w2.heap[b]? = (w.alloc (.cells (madeCells #[.int .i64 0] C) 3)).heap[b]? := fun b hb hne => by
    rw [hg.block b (by simp; omega) hne]
    exact Below.heap_alloc _ _ _ (by simpa using hb)
  refine ⟨?_, ?_, ?_, ?_⟩
  · have e : rowsV C (fun r => if r = k then w.heap.size else h r) (k + 1) = rowsV C h k ++ [.slice (some ⟨w.heap.size, 0, none⟩) C C] := by
      unfold rowsV
      rw [List.range_succ, List.map_append, List.map_singleton]
      simp only [if_true]
      congr 1
      refine List.map_congr_left fun r hr => ?_
      have : r ≠ k := by have := List.mem_range.1 hr; omega
      rw [if_neg this]
    rw [e]; exact ho
  · intro r hr
    by_cases e : r = k
    · simp only [e, if_true]
      refine (World.rowIs_made w (.int .i64 0) C 3).of_block (hkept _ (by omega) ?_)
      intro q; have := hs _ q.symm; omega
    · simp only [e, if_false]
      have hr' : r < k := by omega
      have hl := (t.row r hr').lt
      refine ((t.row r hr').alloc _).of_block (hkept _ (by omega) ?_)
      exact fun q => (t.rb r hr').2 q.symm
  · intro r hr
    by_cases e : r = k
    · simp only [e, if_true]
      refine ⟨hB, ?_⟩
      intro q
      have q' : g = w.heap.size := by simpa [Value.ownBlock] using q
      rcases hw with hw | hw
      · have := hs _ hw; omega
      · omega
    · simp only [e, if_false]
      have hr' : r < k := by omega
      have hl := (t.row r hr').lt
      refine ⟨(t.rb r hr').1, ?_⟩
      intro q
      have q' : g = h r := by simpa [Value.ownBlock] using q
      rcases hw with hw | hw
      · exact (t.rb r hr').2 (by rw [hw, q'])
      · omega
  · intro r s hrs hs'
    by_cases e : s = k
    · have hl := (t.row r (by omega)).lt
      simp only [e, if_true, show r ≠ k by omega, if_false]; exact hl
    · simp only [e, if_false, show r ≠ k by omega]
      exact t.inj r s hrs (by omega)
theorem Rws.tab {w : World} {B C k g cap : Nat} {h : Nat → Nat} (t : Rws w B C (.slice (some ⟨g, 0, none⟩) k cap) k h) (hg : g < w.heap.size) (hb : B ≤ g) : Tab w B g k C h (fun _ _ => 0) where
  base := hb
  lt := hg
  outer r hr := by
    have := t.own.cells (g := g) rfl r (.slice (some ⟨h r, 0, none⟩) C C) (by simp [rowsV, hr])
    have e : (⟨g, 0, none⟩ : Addr).add r = ⟨g, r, none⟩ := by unfold Addr.add; split <;> simp_all
    rw [e] at this; exact this
  row := t.row
  rb r hr := ⟨(t.rb r hr).1, fun e => (t.rb r hr).2 (by rw [e]; rfl)⟩
  inj := t.inj

set_option maxHeartbeats 1600000 in
theorem zeros_any (R C : Nat) (w : World) (hR : R ≤ 10000) (hC : C ≤ 10000) (hR0 : 0 < R) :
    Calls Tryz.prog 41 #[.int .i64 (R : Int), .int .i64 (C : Int)] w fun e w' => Below w.heap.size w w' ∧ ∃ g cap h, e = .returned (.slice (some ⟨g, 0, none⟩) R cap) ∧ Tab w' w.heap.size g R C h (fun _ _ => 0) := by
  obtain ⟨i0, hi, hz0, hz1, hz2⟩ := info_parts Tryz.infoInts
  have hmk := run_make_row' (P := Tryz.prog) 57 3 (.int .i64 0) 8 Tryz.underlying57 Tryz.infoInt rfl .i64 .i64 C (by omega) (by omega)
  go_enter Tryz.func41, Tryz.ntmps41
  go_wp2_with fail
  go_loopw [5, 6] (fun v i wr => ∃ (k : Nat) (h : Nat → Nat), k ≤ R ∧ i = .int .i64 k ∧ Rws wr w.heap.size C v k h ∧ Below w.heap.size w wr) (fun _ i _ => R - (intOf i).toNat)
  case atStart => exact ⟨0, fun _ => 0, Nat.zero_le _, rfl, ⟨World.ownsRow_nil _ _ _ _, fun r hr => by omega, fun r hr => by omega, fun r s h1 h2 => by omega⟩, Below.refl _ _⟩
  case round =>
    obtain ⟨k, h, hk, rfl, hr, hB⟩ := hrel
    have HR := hide hr
    have HB := hide hB
    have hsz := hB.size
    clear hr hB
    by_cases hlt : k < R
    · go_wp2_with (first
        | (at_builtin; refine wpList_append_lies _ rfl (.tmp 12) (.tmp 15) 58 rfl w.heap.size 57 i0 (.slice none 0 0) 1 24 Tryz.underlying58 hi hz0 hz1 hz2 rfl (by decide) _ k (rowsV C h k) rfl (((unhide HR).own.alloc _).alloc _) ⟨wr.heap.size + 1, 0, none⟩ 1 1 [.slice (some ⟨wr.heap.size, 0, none⟩) C C] (by simp [Act.eval]) rfl (news_of (by have := heap_alloc_new (wr.alloc (.cells (madeCells #[.int .i64 0] C) 3)) (.cells #[.slice (some ⟨wr.heap.size, 0, none⟩) C C] 57 (0, 0)); simpa using this)) (by intro u hu; simp at hu; subst hu; rfl) (by decide) (by unfold maxLen; omega) (by omega) (by simp; omega) (wr.heap.size + 1 + 1) (by simp) ?_)
        | fail)
      intro g cap w2 hown2 hgrow hg hlt2
      have hr2 := (unhide HR).step hsz _ hgrow hown2 hg
      have hB2 : Below w.heap.size w w2 := (((unhide HB).alloc hsz _).alloc (by simp; omega) _).grown hgrow (by simp; omega) (fun j hj => ((unhide HR).own.lt j hj).1)
      have HB2 := hide hB2
      have HR2 := hide hr2
      clear hown2 hgrow hB2 hr2 HR HB
      go_wp2_with fail
      go_roundw
      case rel => exact ⟨k + 1, _, by omega, by go_num, unhide HR2, unhide HB2⟩
      case measure => simp [intOf]; omega
    · have hkR : k = R := by omega
      subst hkR
      rcases (unhide HR).own.2 with ⟨_, h0⟩ | ⟨g, cap, cur, rfl, hgb, hgg, _⟩
      · omega
      have HT := hide ((unhide HR).tab (Array.getElem?_eq_some_iff.1 hgg).1 hgb)
      clear hgg
      go_wp2_with fail
      go_ret
      exact ⟨unhide HB, g, cap, h, rfl, unhide HT⟩

theorem least_any (a b : Int) (w : World) : Calls Tryz.prog 67 #[.int .i64 a, .int .i64 b] w fun e w' => e = .returned (.int .i64 (min a b)) ∧ w' = w := by
  go_enter Tryz.func67, Tryz.ntmps67
  by_cases h : a < b
  · go_wp2_with fail
    go_ret
    exact ⟨ret_int (by omega), rfl⟩
  · go_wp2_with fail
    go_ret
    exact ⟨ret_int (by omega), rfl⟩

end Go.Proofs.YtdaneedflpfeaabGreatDoor

namespace Go.Proofs.YtdaneedflpfeaabGreatDoor
set_option maxRecDepth 100000
open Go.RowKit

/-- Numbers in memory. -/
structure IA (w : World) (g n : Nat) (f : Nat → Nat) : Prop where
  lt : g < w.heap.size
  at_ : ∀ j, j < n → w.cell? ⟨g, j, none⟩ = some (.int .i64 (f j : Int))
theorem IA.below {w w' : World} {g n B : Nat} {f : Nat → Nat} (h : IA w g n f) (hb : Below B w w') (hB : g < B) : IA w' g n f :=
  ⟨by have := hb.size; have := h.lt; omega, fun j hj => (cell_heap (hb.block g hB)).trans (h.at_ j hj)⟩
def endsV (f : Nat → Nat) (k : Nat) : List Value := (List.range k).map fun j => .int .i64 (f j : Int)
theorem endsV_succ (f : Nat → Nat) (k : Nat) : endsV f (k + 1) = endsV f k ++ [.int .i64 (f k : Int)] := by
  unfold endsV; rw [List.range_succ, List.map_append, List.map_singleton]
theorem IA.of_own {w : World} {B g n cap : Nat} {f : Nat → Nat} (h : w.ownsRow B 3 1 (.slice (some ⟨g, 0, none⟩) n cap) n (endsV f n)) (hg : g < w.heap.size) : IA w g n f :=
  ⟨hg, fun j hj => by
    have := h.cells (g := g) rfl j (.int .i64 (f j : Int)) (by simp [endsV, hj])
    have e : (⟨g, 0, none⟩ : Addr).add j = ⟨g, j, none⟩ := by unfold Addr.add; split <;> simp_all
    rw [e] at this; exact this⟩

set_option maxHeartbeats 1600000 in
theorem subtreeEnds_any (l : List Nd) (g cap : Nat) (w : World) (hl : l.length ≤ 10000) (hn : NA w g 0 l) :
    Calls Tryz.prog 40 #[.slice (some ⟨g, 0, none⟩) l.length cap] w fun e w' => Below w.heap.size w w' ∧ ∃ v, e = .returned v ∧ w'.ownsRow w.heap.size 3 1 v l.length (endsV (subE l) l.length) := by
  obtain ⟨i0, hi, hz0, hz1, hz2⟩ := info_parts Tryz.infoInt
  have HN := hide hn
  have hgl := hn.lt
  clear hn
  go_enter Tryz.func40, Tryz.ntmps40
  go_wp2_with fail
  go_loopw [3, 4, 5, 8] (fun v _ _ i wr => ∃ k : Nat, k ≤ l.length ∧ i = .int .i64 k ∧ wr.ownsRow w.heap.size 3 1 v k (endsV (subE l) k) ∧ Below w.heap.size w wr) (fun _ _ _ i _ => l.length - (intOf i).toNat)
  case atStart => exact ⟨0, Nat.zero_le _, rfl, World.ownsRow_nil _ _ _ _, Below.refl _ _⟩
  case round =>
    obtain ⟨k, hk, rfl, hown, hB⟩ := hrel
    have HO := hide hown
    have HB := hide hB
    have hsz := hB.size
    clear hown hB
    by_cases hlt : k < l.length
    · have HC : Hid (Calls Tryz.prog 66 #[.slice (some ⟨g, 0, none⟩) l.length cap, .int .i64 (k : Int)] wr fun e w' => e = .returned (.int .i64 (subE l k : Int)) ∧ Below wr.heap.size wr w') := subtreeEnd_any l k g cap wr (by omega) hlt ((unhide HN).below (unhide HB) hgl)
      have HS := hide (endsV_succ (subE l) k)
      have hle := subE_le hlt
      generalize subE l k = x at *
      go_wp2_with fail
      refine (unhide HC).mono ?_
      rintro e w1 ⟨rfl, hB1⟩
      have HB1 : Hid (Below w.heap.size w w1) := (unhide HB).trans (hB1.mono hsz)
      have HO1 := hide (row_below (unhide HO) (fun j hj => ((unhide HO).lt j hj).2) hB1)
      have hsz1 := hB1.size
      clear hB1
      go_wp2_with (first
        | (at_builtin; refine wpList_append_lies _ rfl (.tmp 14) (.tmp 16) 57 rfl w.heap.size 3 i0 (.int .i64 0) 1 8 Tryz.underlying57 hi hz0 hz1 hz2 rfl (by decide) _ k (endsV (subE l) k) rfl ((unhide HO1).alloc _) ⟨w1.heap.size, 0, none⟩ 1 1 [.int .i64 (x : Int)] rfl rfl (news_of (heap_alloc_new _ _)) (by intro u hu; simp at hu; subst hu; rfl) (by decide) (by unfold maxLen; omega) (by omega) (by simp; omega) _ rfl ?_)
        | fail)
      intro g2 cap2 w2 hown2 hgrow _ hlt2
      have HB2 : Hid (Below w.heap.size w w2) := ((unhide HB1).alloc (by omega) _).grown hgrow (by simp; omega) (fun j hj => ((unhide HO1).lt j hj).1)
      have HO2 := hide hown2
      clear hown2 hgrow
      go_wp2_with fail
      go_roundw
      case rel => exact ⟨k + 1, by omega, by go_num, by rw [unhide HS]; exact unhide HO2, unhide HB2⟩
      case measure => simp [intOf]; omega
    · have hkl : k = l.length := by omega
      subst hkl
      go_wp2_with fail
      go_ret
      exact ⟨unhide HB, _, rfl, unhide HO⟩

def lab (n : Nd) : Bool × ByteArray := (n.inner, n.text)
theorem isAlike_any (x y : Nd) (w : World) : Calls Tryz.prog 44 #[.agg #[.bool x.inner, .string x.text, .int .i64 x.depth], .agg #[.bool y.inner, .string y.text, .int .i64 y.depth]] w fun e w' => e = .returned (.bool (decide (lab x = lab y))) ∧ Below w.heap.size w w' := by
  have HF : Hid (decide (lab x = lab y) = (x.inner == y.inner && x.text.toList == y.text.toList)) := by
    show _ = _
    have e : (x.text = y.text) ↔ (x.text.toList = y.text.toList) := ⟨fun h => by rw [h], ba_same⟩
    simp only [lab, Prod.mk.injEq, e]
    by_cases h1 : x.inner = y.inner <;> by_cases h2 : x.text.toList = y.text.toList <;> simp [h1, h2]
  go_enter Tryz.func44, Tryz.ntmps44
  by_cases h1 : x.inner = y.inner
  · have h1' : (x.inner == y.inner) = true := by simp [h1]
    go_wp2_with fail
    go_ret
    exact ⟨ret_bool (by rw [unhide HF]; simp [h1']), ((Below.refl _ _).alloc (Nat.le_refl _) _).alloc (by simp) _⟩
  · have h1' : (x.inner == y.inner) = false := by simp [h1]
    go_wp2_with fail
    go_ret
    exact ⟨ret_bool (by rw [unhide HF]; simp [h1']), ((Below.refl _ _).alloc (Nat.le_refl _) _).alloc (by simp) _⟩

/-- The fewest steps if the one becomes the other. -/
def prd (F : Nat → Nat → Int) (L M : List Nd) (u v : Nat) : Int := match L[u]?, M[v]? with
  | some x, some y => F u v + (Dist.rel (lab x) (lab y) : Int)
  | _, _ => 0
/-- A comparison in memory. -/
def cmpV (gf cf lf gt ct lt ge ce gu cu gb cb : Nat) : Value := .agg #[.slice (some ⟨gf, 0, none⟩) lf cf, .slice (some ⟨gt, 0, none⟩) lt ct, .slice (some ⟨ge, 0, none⟩) lf ce, .slice (some ⟨gu, 0, none⟩) lt cu, .slice (some ⟨gb, 0, none⟩) lf cb]
/-- What paired reads. -/
abbrev PairS (w : World) (x y : Nd) (gf cf lf gt ct lt gb cb : Nat) (h : Nat → Nat) (F : Nat → Nat → Int) (u v : Nat) (wq : World) : Prop :=
  wq.cell? ⟨w.heap.size, 0, none⟩ = some (.slice (some ⟨gf, 0, none⟩) lf cf) ∧ wq.cell? ⟨w.heap.size, 1, none⟩ = some (.slice (some ⟨gt, 0, none⟩) lt ct) ∧ wq.cell? ⟨w.heap.size, 4, none⟩ = some (.slice (some ⟨gb, 0, none⟩) lf cb) ∧
  wq.cell? ⟨gf, u * 3, none⟩ = some (.bool x.inner) ∧ wq.cell? ⟨gf, u * 3 + 1, none⟩ = some (.string x.text) ∧ wq.cell? ⟨gf, u * 3 + 2, none⟩ = some (.int .i64 x.depth) ∧
  wq.cell? ⟨gt, v * 3, none⟩ = some (.bool y.inner) ∧ wq.cell? ⟨gt, v * 3 + 1, none⟩ = some (.string y.text) ∧ wq.cell? ⟨gt, v * 3 + 2, none⟩ = some (.int .i64 y.depth) ∧
  wq.cell? ⟨gb, u, none⟩ = some (.slice (some ⟨h u, 0, none⟩) lt lt) ∧ wq.cell? ⟨h u, v, none⟩ = some (.int .i64 (F u v))
set_option maxHeartbeats 1600000 in
theorem paired_any (L M : List Nd) (gf cf gt ct ge ce gu cu gb cb B : Nat) (h : Nat → Nat) (F : Nat → Nat → Int) (u v : Nat) (w : World) (hu : u < L.length) (hv : v < M.length) (hL : NA w gf 0 L) (hM : NA w gt 0 M)
    (hT : Tab w B gb L.length M.length h F) (hF : 0 ≤ F u v ∧ F u v ≤ 1000000) :
    Calls Tryz.prog 68 #[cmpV gf cf L.length gt ct M.length ge ce gu cu gb cb, .int .i64 (u : Int), .int .i64 (v : Int)] w fun e w' => e = .returned (.int .i64 (prd F L M u v)) ∧ Below w.heap.size w w' := by
  obtain ⟨x, hx⟩ : ∃ x, L[u]? = some x := ⟨_, List.getElem?_eq_getElem hu⟩
  obtain ⟨y, hy⟩ : ∃ y, M[v]? = some y := ⟨_, List.getElem?_eq_getElem hv⟩
  have HP : Hid (prd F L M u v = F u v + (Dist.rel (lab x) (lab y) : Int)) := by show prd F L M u v = _; rw [prd, hx, hy]
  have HKEY : Hid (∀ wq : World, (∀ i, i < w.heap.size + 1 → wq.heap[i]? = (w.alloc (.cells #[.slice (some ⟨gf, 0, none⟩) L.length cf, .slice (some ⟨gt, 0, none⟩) M.length ct, .slice (some ⟨ge, 0, none⟩) L.length ce, .slice (some ⟨gu, 0, none⟩) M.length cu, .slice (some ⟨gb, 0, none⟩) L.length cb] 60 (0, 0))).heap[i]?) → PairS w x y gf cf L.length gt ct M.length gb cb h F u v wq) := fun wq hq => by
    have hk := (hq w.heap.size (by omega)).trans (heap_alloc_new _ _)
    have hold : ∀ i, i < w.heap.size → wq.heap[i]? = w.heap[i]? := fun i hi => (hq i (by omega)).trans (heap_alloc_old _ _ hi)
    obtain ⟨x0, x1, x2⟩ := (hL.heap (hold _ hL.lt)).cell0 hx
    obtain ⟨y0, y1, y2⟩ := (hM.heap (hold _ hM.lt)).cell0 hy
    have c := fun j v hj => cell_of_row wq w.heap.size j _ _ (0, 0) hk |>.trans (show (#[Value.slice (some ⟨gf, 0, none⟩) L.length cf, .slice (some ⟨gt, 0, none⟩) M.length ct, .slice (some ⟨ge, 0, none⟩) L.length ce, .slice (some ⟨gu, 0, none⟩) M.length cu, .slice (some ⟨gb, 0, none⟩) L.length cb] : Array Value)[j]? = some v from hj)
    exact ⟨c 0 _ rfl, c 1 _ rfl, c 4 _ rfl, x0, x1, x2, y0, y1, y2, (cell_heap (hold gb hT.lt)).trans (hT.outer u hu), (cell_heap (hold _ (hT.row u hu).lt)).trans (hT.cell hu hv)⟩
  have HS0 := hide (unhide HKEY (w.alloc (.cells #[.slice (some ⟨gf, 0, none⟩) L.length cf, .slice (some ⟨gt, 0, none⟩) M.length ct, .slice (some ⟨ge, 0, none⟩) L.length ce, .slice (some ⟨gu, 0, none⟩) M.length cu, .slice (some ⟨gb, 0, none⟩) L.length cb] 60 (0, 0))).drew (fun i _ => rfl))
  generalize prd F L M u v = R at *
  unfold cmpV
  have HA := hide (isAlike_any x y)
  by_cases hr : lab x = lab y
  · have hR : decide (lab x = lab y) = true := by simp [hr]
    have HR : Hid (R = F u v) := by show R = _; rw [unhide HP, Dist.rel, if_pos hr]; simp
    rw [hR] at HA
    clear HP hT hL hM hx hy hr hR
    go_enter Tryz.func68, Tryz.ntmps68
    go_wp2_with fail
    go_region_held3 (PairS w x y gf cf L.length gt ct M.length gb cb h F u v) (first | exact unhide HS0 | exact unhide HS5) (first | (go_at_call 44; refine (unhide HA _).mono ?_; rintro e w5 ⟨rfl, hB5⟩; have HB5 : Hid (Below w.heap.size w w5) := (((Below.refl w.heap.size w).alloc (Nat.le_refl _) _).drew).trans (hB5.mono (by simp)); have HS5 := hide (unhide HKEY w5 (fun i hi => hB5.block i (by simpa using hi))); clear hB5))
    obtain ⟨c0, c1, c4, _, _, _, _, _, _, t0, t1⟩ := unhide HS5
    go_wp2_with fail
    go_ret
    exact ⟨ret_int (by rw [unhide HR]), unhide HB5⟩
  · have hR : decide (lab x = lab y) = false := by simp [hr]
    have HR : Hid (R = F u v + 1) := by show R = _; rw [unhide HP, Dist.rel, if_neg hr]; simp
    rw [hR] at HA
    clear HP hT hL hM hx hy hr hR
    go_enter Tryz.func68, Tryz.ntmps68
    go_wp2_with fail
    go_region_held3 (PairS w x y gf cf L.length gt ct M.length gb cb h F u v) (first | exact unhide HS0 | exact unhide HS5) (first | (go_at_call 44; refine (unhide HA _).mono ?_; rintro e w5 ⟨rfl, hB5⟩; have HB5 : Hid (Below w.heap.size w w5) := (((Below.refl w.heap.size w).alloc (Nat.le_refl _) _).drew).trans (hB5.mono (by simp)); have HS5 := hide (unhide HKEY w5 (fun i hi => hB5.block i (by simpa using hi))); clear hB5))
    obtain ⟨c0, c1, c4, _, _, _, _, _, _, t0, t1⟩ := unhide HS5
    go_wp2_with fail
    go_ret
    exact ⟨ret_int (by rw [unhide HR]), unhide HB5⟩

end Go.Proofs.YtdaneedflpfeaabGreatDoor

namespace Go.Proofs.YtdaneedflpfeaabGreatDoor
set_option maxRecDepth 100000
open Go.RowKit

theorem goE_spec (l : List Nd) (d : Int) (e : Nat) : (∀ i y, e ≤ i → i < goE l d e → l[i]? = some y → d < y.depth) ∧ (∀ y, l[goE l d e]? = some y → y.depth ≤ d) := by
  induction e using goE.induct l d with
  | case1 e h1 h2 ih =>
    rw [goE, dif_pos h1, if_pos h2]
    refine ⟨fun i y hi hi2 hy => ?_, ih.2⟩
    rcases Nat.lt_or_ge e i with q | q
    · exact ih.1 i y q hi2 hy
    · have : i = e := by omega
      subst this
      rw [List.getElem?_eq_getElem h1] at hy
      rw [← Option.some.inj hy]; exact h2
  | case2 e h1 h2 =>
    rw [goE, dif_pos h1, if_neg h2]
    refine ⟨fun i y hi hi2 hy => by omega, fun y hy => ?_⟩
    rw [List.getElem?_eq_getElem h1] at hy
    rw [← Option.some.inj hy]; omega
  | case3 e h1 =>
    rw [goE, dif_neg h1]
    refine ⟨fun i y hi hi2 hy => by omega, fun y hy => ?_⟩
    rw [List.getElem?_eq_none (by omega)] at hy; cases hy
theorem subE_sub {l : List Nd} {k : Nat} (hk : k < l.length) : Dist.Sub Nd.depth l k (subE l k) where
  lt := (subE_le hk).1
  le := (subE_le hk).2
  deep x y i h1 h2 hx hy := by
    rw [subE, hx] at h2
    exact (goE_spec l x.depth (k + 1)).1 i y (by omega) h2 hy
  stop x y hx hy := by
    rw [subE, hx] at hy
    exact (goE_spec l x.depth (k + 1)).2 y hy
/-- The fewest steps between parts of two lists of nodes. -/
def dN (L M : List Nd) (a b a' b' : Nat) : Int := (Dist.dS Nd.depth lab L M a b a' b' : Int)
/-- What stands below two nodes. -/
def dB (L M : List Nd) (u v : Nat) : Int := dN L M (u + 1) (subE L u) (v + 1) (subE M v)
theorem dl_size {α : Type} [DecidableEq α] (f g : Dist.Fo α) : Dist.dl f g ≤ f.size + g.size := by
  have h1 := Dist.dl_tri f .nil g
  rw [Dist.dl_nil, Dist.dl_nil'] at h1
  exact h1
theorem dN_le (L M : List Nd) (a b a' b' : Nat) (h1 : b ≤ L.length) (h2 : b' ≤ M.length) : 0 ≤ dN L M a b a' b' ∧ dN L M a b a' b' ≤ L.length + M.length := by
  unfold dN Dist.dS
  have := dl_size ((Dist.fo Nd.depth (Dist.sg L a b)).map lab) ((Dist.fo Nd.depth (Dist.sg M a' b')).map lab)
  rw [Dist.map_size, Dist.map_size, Dist.fo_size _ _ _ (Nat.le_refl _), Dist.fo_size _ _ _ (Nat.le_refl _), Dist.sg_len _ _ _ h1, Dist.sg_len _ _ _ h2] at this
  omega
/-- The table's entries. -/
def vN (L M : List Nd) (k l i j : Nat) : Int := dN L M (k + 1 + i) (subE L k) (l + 1 + j) (subE M l)
theorem vN_le {L M : List Nd} {k l : Nat} (hk : k < L.length) (hl : l < M.length) (i j : Nat) : 0 ≤ vN L M k l i j ∧ vN L M k l i j ≤ L.length + M.length :=
  dN_le L M _ _ _ _ (subE_le hk).2 (subE_le hl).2
theorem vN_rows {L M : List Nd} {k l : Nat} (hk : k < L.length) (hl : l < M.length) (j : Nat) : vN L M k l (subE L k - k - 1) j = ((subE M l - (l + 1 + j) : Nat) : Int) := by
  have h1 := subE_le hk; have h2 := subE_le hl
  unfold vN dN
  rw [show k + 1 + (subE L k - k - 1) = subE L k by omega, Dist.dS_end _ _ _ _ _ _ _ h2.2]
theorem vN_cols {L M : List Nd} {k l : Nat} (hk : k < L.length) (hl : l < M.length) (i : Nat) : vN L M k l i (subE M l - l - 1) = ((subE L k - (k + 1 + i) : Nat) : Int) := by
  have h1 := subE_le hk; have h2 := subE_le hl
  unfold vN dN
  rw [show l + 1 + (subE M l - l - 1) = subE M l by omega, Dist.dS_end' _ _ _ _ _ _ _ h1.2]
theorem vN_step {L M : List Nd} {k l i j : Nat} (hk : k < L.length) (hl : l < M.length) (hi : i < subE L k - k - 1) (hj : j < subE M l - l - 1) (F : Nat → Nat → Int) (hF : F (k + 1 + i) (l + 1 + j) = dB L M (k + 1 + i) (l + 1 + j)) :
    vN L M k l i j = min (min (vN L M k l (i + 1) j) (vN L M k l i (j + 1)) + 1) (prd F L M (k + 1 + i) (l + 1 + j) + vN L M k l (subE L (k + 1 + i) - k - 1) (subE M (l + 1 + j) - l - 1)) ∧
    subE L (k + 1 + i) - k - 1 ≤ subE L k - k - 1 ∧ subE M (l + 1 + j) - l - 1 ≤ subE M l - l - 1 ∧ i < subE L (k + 1 + i) - k - 1 ∧ j < subE M (l + 1 + j) - l - 1 := by
  have h1 := subE_le hk; have h2 := subE_le hl
  have hu : k + 1 + i < L.length := by omega
  have hv : l + 1 + j < M.length := by omega
  have s1 := subE_sub hu; have s2 := subE_sub hv
  have e1 := s1.inside (subE_sub hk) (by omega) (by omega)
  have e2 := s2.inside (subE_sub hl) (by omega) (by omega)
  have q1 := s1.lt; have q2 := s2.lt
  obtain ⟨x, hx⟩ : ∃ x, L[k + 1 + i]? = some x := ⟨_, List.getElem?_eq_getElem hu⟩
  obtain ⟨y, hy⟩ : ∃ y, M[l + 1 + j]? = some y := ⟨_, List.getElem?_eq_getElem hv⟩
  refine ⟨?_, by omega, by omega, by omega, by omega⟩
  rw [prd, hx, hy]
  simp only [hF, dB, vN, dN]
  rw [Dist.dS_step (h := lab) s1 s2 e1 e2 hx hy]
  rw [show k + 1 + (i + 1) = k + 1 + i + 1 by omega, show l + 1 + (j + 1) = l + 1 + j + 1 by omega, show k + 1 + (subE L (k + 1 + i) - k - 1) = subE L (k + 1 + i) by omega, show l + 1 + (subE M (l + 1 + j) - l - 1) = subE M (l + 1 + j) by omega]
  omega

end Go.Proofs.YtdaneedflpfeaabGreatDoor
