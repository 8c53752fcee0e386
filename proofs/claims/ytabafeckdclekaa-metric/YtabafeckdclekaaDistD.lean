import Derived.Test.YtabafeckdclekaaPatN
import Derived.Test.YtabafeckdclekaaDistC
import Derived.Deep.OwnRows
import Derived.Laws.StructEq
namespace Go.Proofs.Ytabafeckdclekaa
set_option maxRecDepth 100000
open Go.RowKit

theorem Try.infoInt : (Try.prog.info? 3).map (fun i => (i.zero, i.size, i.bytes)) = some (some (.int .i64 0), 1, 8) := by kernel_rfl
theorem Try.infoInts : (Try.prog.info? 35).map (fun i => (i.zero, i.size, i.bytes)) = some (some (.slice none 0 0), 1, 24) := by kernel_rfl

/-- A table: rows of numbers, each in a block of its own. -/
structure Tab (w : World) (B g R C : Nat) (h : Nat → Nat) (f : Nat → Nat → Int) : Prop where
  base : B ≤ g
  lt : g < w.heap.size
  outer : ∀ r, r < R → w.cell? ⟨g, r, none⟩ = some (.slice (some ⟨h r, 0, none⟩) C C)
  row : ∀ r, r < R → w.rowIs (h r) 3 C (fun c => .int .i64 (f r c))
  rb : ∀ r, r < R → B ≤ h r ∧ h r ≠ g
  inj : ∀ r s, r < s → s < R → h r < h s
theorem Tab.below {w w' : World} {B B' g R C : Nat} {h : Nat → Nat} {f : Nat → Nat → Int} (t : Tab w B g R C h f) (hb : Below B' w w') (hg : g < B') (hh : ∀ r, r < R → h r < B') : Tab w' B g R C h f where
  base := t.base
  lt := by have := hb.size; have := t.lt; omega
  outer r hr := (cell_heap (hb.block g hg)).trans (t.outer r hr)
  row r hr := (t.row r hr).of_block (hb.block _ (hh r hr))
  rb := t.rb
  inj := t.inj
theorem Tab.all {w w' : World} {B g R C : Nat} {h : Nat → Nat} {f : Nat → Nat → Int} (t : Tab w B g R C h f) (hb : Below w.heap.size w w') : Tab w' B g R C h f :=
  t.below hb t.lt (fun r hr => (t.row r hr).lt)
theorem Tab.mono {w : World} {B B' g R C : Nat} {h : Nat → Nat} {f : Nat → Nat → Int} (t : Tab w B g R C h f) (hb : B' ≤ B) : Tab w B' g R C h f :=
  ⟨by have := t.base; omega, t.lt, t.outer, t.row, fun r hr => by have := t.rb r hr; exact ⟨by omega, this.2⟩, t.inj⟩
theorem Tab.cell {w : World} {B g R C : Nat} {h : Nat → Nat} {f : Nat → Nat → Int} (t : Tab w B g R C h f) {r c : Nat} (hr : r < R) (hc : c < C) : w.cell? ⟨h r, c, none⟩ = some (.int .i64 (f r c)) := (t.row r hr).cell hc
theorem Tab.frozen {w : World} {B g R C : Nat} {h : Nat → Nat} {f : Nat → Nat → Int} (t : Tab w B g R C h f) {r c : Nat} (hr : r < R) : w.frozen? ⟨h r, c, none⟩ = false := (t.row r hr).frozen c
theorem Tab.congr {w : World} {B g R C : Nat} {h : Nat → Nat} {f f' : Nat → Nat → Int} (t : Tab w B g R C h f) (e : ∀ r c, r < R → c < C → f r c = f' r c) : Tab w B g R C h f' :=
  ⟨t.base, t.lt, t.outer, fun r hr => (t.row r hr).congr fun c hc => by rw [e r c hr hc], t.rb, t.inj⟩
theorem Tab.set {w : World} {B g R C : Nat} {h : Nat → Nat} {f : Nat → Nat → Int} (t : Tab w B g R C h f) {i j : Nat} (hi : i < R) (v : Int) :
    Tab (w.setCell ⟨h i, j, none⟩ (.int .i64 v)) B g R C h (fun r c => if r = i ∧ c = j then v else f r c) where
  base := t.base
  lt := by rw [Go.Deep.nblk_setCell]; exact t.lt
  outer r hr := by
    rw [← t.outer r hr]
    exact cell_heap (Below.heap_setCell _ _ _ _ (fun e => (t.rb i hi).2 e.symm))
  row r hr := by
    by_cases e : r = i
    · subst e
      refine ((t.row r hr).set j (.int .i64 v)).congr fun c hc => ?_
      by_cases q : c = j
      · simp [q]
      · simp [q]
    · have hne : h r ≠ h i := by
        rcases Nat.lt_or_ge r i with q | q
        · have := t.inj r i q hi; omega
        · have := t.inj i r (by omega) hr; omega
      refine ((t.row r hr).setOther (a := ⟨h i, j, none⟩) hne _).congr fun c hc => ?_
      simp [e]
  rb := t.rb
  inj := t.inj
theorem Tab.draw {w : World} {B g R C : Nat} {h : Nat → Nat} {f : Nat → Nat → Int} (t : Tab w B g R C h f) : Tab w.drew B g R C h f := ⟨t.base, t.lt, t.outer, t.row, t.rb, t.inj⟩

/-- Its making: so many rows. -/
def rowsV (C : Nat) (h : Nat → Nat) (k : Nat) : List Value := (List.range k).map fun r => .slice (some ⟨h r, 0, none⟩) C C
structure Rws (w : World) (B C : Nat) (v : Value) (k : Nat) (h : Nat → Nat) : Prop where
  own : w.ownsRow B 35 1 v k (rowsV C h k)
  row : ∀ r, r < k → w.rowIs (h r) 3 C (fun _ => .int .i64 0)
  rb : ∀ r, r < k → B ≤ h r ∧ v.ownBlock ≠ some (h r)
  inj : ∀ r s, r < s → s < k → h r < h s
theorem Rws.step {w w2 : World} {B C k g cap : Nat} {v : Value} {h : Nat → Nat} (t : Rws w B C v k h) (hB : B ≤ w.heap.size) (o : Obj)
    (hg : ((w.alloc (.cells (madeCells #[.int .i64 0] C) 3)).alloc o).grownBy w2 v.ownBlock)
    (ho : w2.ownsRow B 35 1 (.slice (some ⟨g, 0, none⟩) (k + 1) cap) (k + 1) (rowsV C h k ++ [.slice (some ⟨w.heap.size, 0, none⟩) C C]))
    (hw : v.ownBlock = some g ∨ g = w.heap.size + 1 + 1) : Rws w2 B C (.slice (some ⟨g, 0, none⟩) (k + 1) cap) (k + 1) (fun r => if r = k then w.heap.size else h r) := by
  have hs : ∀ j, v.ownBlock = some j → j < w.heap.size := fun j hj => (t.own.lt j hj).2
  have hkept : ∀ b, b < w.heap.size + 1 → some b ≠ v.ownBlock → w2.heap[b]? = (w.alloc (.cells (madeCells #[.int .i64 0] C) 3)).heap[b]? := fun b hb hne => by
    rw [hg.block b (by simp; omega) hne]
    exact Below.heap_alloc _ _ _ (by simpa using hb)
  refine ⟨?_, ?_, ?_, ?_⟩
  · have e : rowsV C (fun r => if r = k then w.heap.size else h r) (k + 1) = rowsV C h k ++ [.slice (some ⟨w.heap.size, 0, none⟩) C C] := by
      unfold rowsV
      rw [List.range_succ, List.map_append, List.map_singleton]
      simp only [if_true]
      congr 1
      refine List.map_congr_left fun r hr => ?_
      have : r ≠ k := by have := List.mem_range.1 hr; omega
      rw [if_neg this]
    rw [e]; exact ho
  · intro r hr
    by_cases e : r = k
    · simp only [e, if_true]
      refine (World.rowIs_made w (.int .i64 0) C 3).of_block (hkept _ (by omega) ?_)
      intro q; have := hs _ q.symm; omega
    · simp only [e, if_false]
      have hr' : r < k := by omega
      have hl := (t.row r hr').lt
      refine ((t.row r hr').alloc _).of_block (hkept _ (by omega) ?_)
      exact fun q => (t.rb r hr').2 q.symm
  · intro r hr
    by_cases e : r = k
    · simp only [e, if_true]
      refine ⟨hB, ?_⟩
      intro q
      have q' : g = w.heap.size := by simpa [Value.ownBlock] using q
      rcases hw with hw | hw
      · have := hs _ hw; omega
      · omega
    · simp only [e, if_false]
      have hr' : r < k := by omega
      have hl := (t.row r hr').lt
      refine ⟨(t.rb r hr').1, ?_⟩
      intro q
      have q' : g = h r := by simpa [Value.ownBlock] using q
      rcases hw with hw | hw
      · exact (t.rb r hr').2 (by rw [hw, q'])
      · omega
  · intro r s hrs hs'
    by_cases e : s = k
    · have hl := (t.row r (by omega)).lt
      simp only [e, if_true, show r ≠ k by omega, if_false]; exact hl
    · simp only [e, if_false, show r ≠ k by omega]
      exact t.inj r s hrs (by omega)
theorem Rws.tab {w : World} {B C k g cap : Nat} {h : Nat → Nat} (t : Rws w B C (.slice (some ⟨g, 0, none⟩) k cap) k h) (hg : g < w.heap.size) (hb : B ≤ g) : Tab w B g k C h (fun _ _ => 0) where
  base := hb
  lt := hg
  outer r hr := by
    have := t.own.cells (g := g) rfl r (.slice (some ⟨h r, 0, none⟩) C C) (by simp [rowsV, hr])
    have e : (⟨g, 0, none⟩ : Addr).add r = ⟨g, r, none⟩ := by unfold Addr.add; split <;> simp_all
    rw [e] at this; exact this
  row := t.row
  rb r hr := ⟨(t.rb r hr).1, fun e => (t.rb r hr).2 (by rw [e]; rfl)⟩
  inj := t.inj

set_option maxHeartbeats 1600000 in
theorem zeros_any (R C : Nat) (w : World) (hR : R ≤ 10000) (hC : C ≤ 10000) (hR0 : 0 < R) :
    Calls Try.prog 49 #[.int .i64 (R : Int), .int .i64 (C : Int)] w fun e w' => Below w.heap.size w w' ∧ ∃ g cap h, e = .returned (.slice (some ⟨g, 0, none⟩) R cap) ∧ Tab w' w.heap.size g R C h (fun _ _ => 0) := by
  obtain ⟨i0, hi, hz0, hz1, hz2⟩ := info_parts Try.infoInts
  have hmk := run_make_row' (P := Try.prog) 35 3 (.int .i64 0) 8 Try.underlying35 Try.infoInt rfl .i64 .i64 C (by omega) (by omega)
  go_enter Try.func49, Try.ntmps49
  go_wp2_with fail
  go_loopw [5, 6] (fun v i wr => ∃ (k : Nat) (h : Nat → Nat), k ≤ R ∧ i = .int .i64 k ∧ Rws wr w.heap.size C v k h ∧ Below w.heap.size w wr) (fun _ i _ => R - (intOf i).toNat)
  case atStart => exact ⟨0, fun _ => 0, Nat.zero_le _, rfl, ⟨World.ownsRow_nil _ _ _ _, fun r hr => by omega, fun r hr => by omega, fun r s h1 h2 => by omega⟩, Below.refl _ _⟩
  case round =>
    obtain ⟨k, h, hk, rfl, hr, hB⟩ := hrel
    have HR := hide hr
    have HB := hide hB
    have hsz := hB.size
    clear hr hB
    by_cases hlt : k < R
    · go_wp2_with (first
        | (at_builtin; refine wpList_append_lies _ rfl (.tmp 12) (.tmp 15) 71 rfl w.heap.size 35 i0 (.slice none 0 0) 1 24 Try.underlying71 hi hz0 hz1 hz2 rfl (by decide) _ k (rowsV C h k) rfl (((unhide HR).own.alloc _).alloc _) ⟨wr.heap.size + 1, 0, none⟩ 1 1 [.slice (some ⟨wr.heap.size, 0, none⟩) C C] (by simp [Act.eval]) rfl (news_of (by have := heap_alloc_new (wr.alloc (.cells (madeCells #[.int .i64 0] C) 3)) (.cells #[.slice (some ⟨wr.heap.size, 0, none⟩) C C] 35 (0, 0)); simpa using this)) (by intro u hu; simp at hu; subst hu; rfl) (by decide) (by unfold maxLen; omega) (by omega) (by simp; omega) (wr.heap.size + 1 + 1) (by simp) ?_)
        | fail)
      intro g cap w2 hown2 hgrow hg hlt2
      have hr2 := (unhide HR).step hsz _ hgrow hown2 hg
      have hB2 : Below w.heap.size w w2 := (((unhide HB).alloc hsz _).alloc (by simp; omega) _).grown hgrow (by simp; omega) (fun j hj => ((unhide HR).own.lt j hj).1)
      have HB2 := hide hB2
      have HR2 := hide hr2
      clear hown2 hgrow hB2 hr2 HR HB
      go_wp2_with fail
      go_roundw
      case rel => exact ⟨k + 1, _, by omega, by go_num, unhide HR2, unhide HB2⟩
      case measure => simp [intOf]; omega
    · have hkR : k = R := by omega
      subst hkR
      rcases (unhide HR).own.2 with ⟨_, h0⟩ | ⟨g, cap, cur, rfl, hgb, hgg, _⟩
      · omega
      have HT := hide ((unhide HR).tab (Array.getElem?_eq_some_iff.1 hgg).1 hgb)
      clear hgg
      go_wp2_with fail
      go_ret
      exact ⟨unhide HB, g, cap, h, rfl, unhide HT⟩

theorem least_any (a b : Int) (w : World) : Calls Try.prog 70 #[.int .i64 a, .int .i64 b] w fun e w' => e = .returned (.int .i64 (min a b)) ∧ w' = w := by
  go_enter Try.func70, Try.ntmps70
  by_cases h : a < b
  · go_wp2_with fail
    go_ret
    exact ⟨ret_int (by omega), rfl⟩
  · go_wp2_with fail
    go_ret
    exact ⟨ret_int (by omega), rfl⟩

end Go.Proofs.Ytabafeckdclekaa
