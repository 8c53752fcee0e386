import Derived.Test.YtdaneedflpfeaaaDoorRefNode
import Derived.Test.YtdaneedflpfeaaaDoorDistF
namespace Go.Proofs.YtdaneedflpfeaaaDoor
set_option maxRecDepth 100000
open Go.RowKit

structure RA (w : World) (g off : Nat) (l : List Rw) : Prop where
  lt : g < w.heap.size
  at_ : ∀ j u, (rwsCells l)[j]? = some u → w.cell? ⟨g, off + j, none⟩ = some u
theorem rcell_heap {w w' : World} {a : Addr} (h : w'.heap[a.block]? = w.heap[a.block]?) : w'.cell? a = w.cell? a := by
  unfold World.cell?; rw [h]
theorem RA.below {w w' : World} {g off B : Nat} {l : List Rw} (h : RA w g off l) (hb : Below B w w') (hB : g < B) : RA w' g off l :=
  ⟨by have := hb.size; have := h.lt; omega, fun j u hu => (rcell_heap (hb.block g hB)).trans (h.at_ j u hu)⟩
theorem RA.heap {w w' : World} {g off : Nat} {l : List Rw} (h : RA w g off l) (hb : w'.heap[g]? = w.heap[g]?) : RA w' g off l := by
  refine ⟨?_, fun j u hu => (rcell_heap hb).trans (h.at_ j u hu)⟩
  have hl := h.lt
  rcases Nat.lt_or_ge g w'.heap.size with q | q
  · exact q
  · rw [Array.getElem?_eq_none q, Array.getElem?_eq_getElem hl] at hb; cases hb
theorem RA.cell {w : World} {g off : Nat} {l : List Rw} (h : RA w g off l) {i : Nat} {x : Rw} (hx : l[i]? = some x) :
    w.cell? ⟨g, off + i * 3, none⟩ = some (.int .i64 (x.deep : Int)) ∧ w.cell? ⟨g, off + i * 3 + 1, none⟩ = some (.bool (!x.inner)) ∧ w.cell? ⟨g, off + i * 3 + 2, none⟩ = some (.string x.text) := by
  refine ⟨h.at_ (i * 3) _ ?_, h.at_ (i * 3 + 1) _ ?_, h.at_ (i * 3 + 2) _ ?_⟩
  · have := rwsCells_get l i 0 (by omega); rw [Nat.add_zero] at this; rw [this, hx]; rfl
  · rw [rwsCells_get l i 1 (by omega), hx]; rfl
  · rw [rwsCells_get l i 2 (by omega), hx]; rfl
theorem RA.cell0 {w : World} {g : Nat} {l : List Rw} (h : RA w g 0 l) {i : Nat} {x : Rw} (hx : l[i]? = some x) :
    w.cell? ⟨g, i * 3, none⟩ = some (.int .i64 (x.deep : Int)) ∧ w.cell? ⟨g, i * 3 + 1, none⟩ = some (.bool (!x.inner)) ∧ w.cell? ⟨g, i * 3 + 2, none⟩ = some (.string x.text) := by
  have := h.cell hx
  simpa only [Nat.zero_add] using this
theorem RA.of_own {w : World} {base g cap n : Nat} {l : List Rw} (h : w.ownsRow base 48 3 (.slice (some ⟨g, 0, none⟩) n cap) l.length (rwsCells l)) (hg : g < w.heap.size) (hn : n = l.length) : RA w g 0 l :=
  ⟨hg, fun j u hu => by
    subst hn
    have hj : j < (rwsCells l).length := by
      rcases Nat.lt_or_ge j (rwsCells l).length with q | q
      · exact q
      · rw [List.getElem?_eq_none q] at hu; cases hu
    rw [rwsCells_len] at hj
    rw [Nat.zero_add, h.cellAt j hj]; exact hu⟩

/-- How many rows stand below a row. -/
def goU (l : List Rw) (d : Nat) (e : Nat) : Nat := if h : e < l.length then (if d < (l[e]).deep then goU l d (e + 1) else e) else e
  termination_by l.length - e
theorem goU_le (l : List Rw) (d : Nat) (e : Nat) (h : e ≤ l.length) : e ≤ goU l d e ∧ goU l d e ≤ l.length := by
  induction e using goU.induct l d with
  | case1 e h1 h2 ih => rw [goU, dif_pos h1, if_pos h2]; have := ih (by omega); omega
  | case2 e h1 h2 => rw [goU, dif_pos h1, if_neg h2]; omega
  | case3 e h1 => rw [goU, dif_neg h1]; omega
def undR (l : List Rw) (k : Nat) : Nat := match l[k]? with | some x => goU l x.deep (k + 1) - (k + 1) | none => 0
theorem undR_le {l : List Rw} {k : Nat} (h : k < l.length) : k + 1 + undR l k ≤ l.length := by
  unfold undR
  rw [List.getElem?_eq_getElem h]
  have := goU_le l (l[k]).deep (k + 1) h
  simp only
  omega

set_option maxHeartbeats 1600000 in
theorem under_at (l : List Rw) (k g off cap : Nat) (w : World) (hl : l.length ≤ 1000000) (hk : k < l.length) (hn : RA w g off l) :
    Calls Tryd.prog 38 #[.slice (some ⟨g, off, none⟩) l.length cap, .int .i64 (k : Int)] w fun e w' => e = .returned (.int .i64 (undR l k : Int)) ∧ Below w.heap.size w w' := by
  have HN := hide hn
  have hgl := hn.lt
  obtain ⟨y, hy⟩ : ∃ y, l[k]? = some y := ⟨_, List.getElem?_eq_getElem hk⟩
  have HS : Hid (undR l k = goU l y.deep (k + 1) - (k + 1)) := by show undR l k = _; rw [undR, hy]
  have HY := hide hy
  clear hn hy
  go_enter Tryd.func38, Tryd.ntmps38
  go_wp2_with fail
  go_loopw [5] (fun i wr => ∃ e : Nat, k + 1 + e ≤ l.length ∧ i = .int .i64 e ∧ Hid (goU l y.deep (k + 1 + e) = goU l y.deep (k + 1)) ∧ Below w.heap.size w wr) (fun i _ => l.length - (intOf i).toNat)
  case atStart => exact ⟨0, by omega, rfl, rfl, Below.refl _ _⟩
  case round =>
    obtain ⟨e, he2, rfl, HE, hB⟩ := hrel
    have hna := (unhide HN).below hB hgl
    obtain ⟨k2, _, _⟩ := hna.cell (unhide HY)
    have HB := hide hB
    have hw1 : IntKind.i64.wrap ((k : Int) + 1) = (k : Int) + 1 := IntWalk.i64_in _ (by omega)
    have hw2 : IntKind.i64.wrap ((k : Int) + 1 + (e : Int)) = (k : Int) + 1 + (e : Int) := IntWalk.i64_in _ (by omega)
    by_cases hlt : k + 1 + e < l.length
    · have hx : l[k + 1 + e]? = some l[k + 1 + e] := List.getElem?_eq_getElem hlt
      obtain ⟨e2, _, _⟩ := hna.cell hx
      have HG := hide (goU.eq_1 l y.deep (k + 1 + e))
      have hix : ((k : Int) + 1 + (e : Int)).toNat = k + 1 + e := by omega
      have hdl : decide ((k : Int) + 1 + (e : Int) < (l.length : Int)) = true := by simp; omega
      clear hna hB hx
      by_cases hd : y.deep < (l[k + 1 + e]).deep
      · have HE2 : Hid (goU l y.deep (k + 1 + (e + 1)) = goU l y.deep (k + 1)) := by show _ = _; rw [← unhide HE, unhide HG, dif_pos hlt, if_pos hd]; rfl
        clear HG HE
        generalize (l[k + 1 + e]'hlt) = x at *
        have hdd : decide ((y.deep : Int) < (x.deep : Int)) = true := by simp; omega
        go_wp2_with fail
        go_quiet (fail)
        go_wp2_with fail
        go_roundw
        case rel => exact ⟨e + 1, by omega, by go_num, HE2, (unhide HB).trans (below_drewN' _ _ _)⟩
        case measure => simp [intOf]; omega
      · have HE2 : Hid (goU l y.deep (k + 1) = k + 1 + e) := by show _ = _; rw [← unhide HE, unhide HG, dif_pos hlt, if_neg hd]
        clear HG HE
        generalize (l[k + 1 + e]'hlt) = x at *
        have hdd : decide ((y.deep : Int) < (x.deep : Int)) = false := by simp; omega
        go_wp2_with fail
        go_quiet (fail)
        go_wp2_with fail
        go_ret
        exact ⟨ret_int (by rw [unhide HS, unhide HE2]; omega), (unhide HB).trans (below_drewN' _ _ _)⟩
    · have HE2 : Hid (goU l y.deep (k + 1) = k + 1 + e) := by show _ = _; rw [← unhide HE, goU, dif_neg hlt]
      have hdl : decide ((k : Int) + 1 + (e : Int) < (l.length : Int)) = false := by simp; omega
      clear hna hB
      go_wp2_with fail
      go_quiet (fail)
      go_wp2_with fail
      go_ret
      exact ⟨ret_int (by rw [unhide HS, unhide HE2]; omega), (unhide HB).trans (below_drewN' _ _ _)⟩

theorem under_any (l : List Rw) (k g cap : Nat) (w : World) (hl : l.length ≤ 1000000) (hk : k < l.length) (hn : RA w g 0 l) :
    Calls Tryd.prog 38 #[.slice (some ⟨g, 0, none⟩) l.length cap, .int .i64 (k : Int)] w fun e w' => e = .returned (.int .i64 (undR l k : Int)) ∧ Below w.heap.size w w' := under_at l k g 0 cap w hl hk hn

end Go.Proofs.YtdaneedflpfeaaaDoor

namespace Go.Proofs.YtdaneedflpfeaaaDoor
set_option maxRecDepth 100000
open Go.RowKit

def rdeep (r : Rw) : Int := r.deep
theorem goU_spec (l : List Rw) (d : Nat) (e : Nat) : (∀ i y, e ≤ i → i < goU l d e → l[i]? = some y → d < y.deep) ∧ (∀ y, l[goU l d e]? = some y → y.deep ≤ d) := by
  induction e using goU.induct l d with
  | case1 e h1 h2 ih =>
    rw [goU, dif_pos h1, if_pos h2]
    refine ⟨fun i y hi hi2 hy => ?_, ih.2⟩
    rcases Nat.lt_or_ge e i with q | q
    · exact ih.1 i y q hi2 hy
    · have : i = e := by omega
      subst this
      rw [List.getElem?_eq_getElem h1] at hy
      rw [← Option.some.inj hy]; exact h2
  | case2 e h1 h2 =>
    rw [goU, dif_pos h1, if_neg h2]
    refine ⟨fun i y hi hi2 hy => by omega, fun y hy => ?_⟩
    rw [List.getElem?_eq_getElem h1] at hy
    rw [← Option.some.inj hy]; omega
  | case3 e h1 =>
    rw [goU, dif_neg h1]
    refine ⟨fun i y hi hi2 hy => by omega, fun y hy => ?_⟩
    rw [List.getElem?_eq_none (by omega)] at hy; cases hy
theorem undR_sub {l : List Rw} {k : Nat} (hk : k < l.length) : Dist.Sub rdeep l k (k + 1 + undR l k) where
  lt := by omega
  le := undR_le hk
  deep x y i h1 h2 hx hy := by
    have := goU_le l x.deep (k + 1) hk
    rw [undR, hx] at h2
    have := (goU_spec l x.deep (k + 1)).1 i y (by omega) (by simp only at h2; omega) hy
    unfold rdeep; omega
  stop x y hx hy := by
    have hg := goU_le l x.deep (k + 1) hk
    rw [undR, hx] at hy
    simp only at hy
    rw [show k + 1 + (goU l x.deep (k + 1) - (k + 1)) = goU l x.deep (k + 1) by omega] at hy
    have := (goU_spec l x.deep (k + 1)).2 y hy
    unfold rdeep; omega
/-- Rows, children first. -/
def poR (l : List Rw) : List (Rw × Nat) := Dist.po (Dist.fo rdeep l) 0
theorem poR_len (l : List Rw) : (poR l).length = l.length := by rw [poR, Dist.po_len, Dist.fo_size _ _ _ (Nat.le_refl _)]
/-- So far all stands at least as deep as what comes. -/
def Edge (l : List Rw) (k : Nat) : Prop := ∀ x ∈ l.take k, ∀ y, l[k]? = some y → y.deep ≤ x.deep
theorem poR_step {l : List Rw} {k : Nat} (hk : k < l.length) (he : Edge l k) :
    poR (l.take (k + 1 + undR l k)) = poR (l.take k) ++ ((poR (Dist.sg l (k + 1) (k + 1 + undR l k))).map fun x => (x.1, x.2 + k)) ++ [(l[k], k)] ∧ Edge l (k + 1 + undR l k) := by
  have hs := undR_sub hk
  have hx : l[k]? = some l[k] := List.getElem?_eq_getElem hk
  have e1 : l.take (k + 1 + undR l k) = l.take k ++ Dist.sg l k (k + 1 + undR l k) := by
    have := Dist.sg_app l 0 k (k + 1 + undR l k) (by omega) (by omega)
    simpa [Dist.sg] using this
  have e2 := (Dist.fo_sub hs (Nat.le_refl _) hx).1
  rw [Dist.sg_self, Dist.fo] at e2
  constructor
  · unfold poR
    rw [e1, Dist.fo_app rdeep _ _ _ (Nat.le_refl _) (fun x hx y hy => by
      have := he x hx y (Dist.sg_head hy).2
      unfold rdeep; omega), e2, Dist.po_app, Dist.po, Dist.po, Dist.fo_size _ _ _ (Nat.le_refl _), List.length_take, Nat.min_eq_left (by omega)]
    rw [Dist.po_shift _ 0 k, List.append_assoc, Nat.zero_add]
  · intro x hx' y hy
    rw [e1] at hx'
    have hst := hs.stop _ _ hx hy
    rcases List.mem_append.1 hx' with q | q
    · have := he x q _ hx
      unfold rdeep at hst; omega
    · obtain ⟨i, hi1, hi2, hi3⟩ := Dist.sg_mem q
      rcases Nat.lt_or_ge k i with r | r
      · have := hs.deep _ _ i r hi2 hx hi3
        unfold rdeep at hst this; omega
      · have : i = k := by omega
        subst this
        rw [hx] at hi3
        have := Option.some.inj hi3
        subst this
        unfold rdeep at hst; omega
theorem edge0 (l : List Rw) : Edge l 0 := fun x hx => by simp at hx

/-- Two slices that grow. -/
def natV (l : List Nat) : List Value := l.map fun (x : Nat) => Value.int .i64 (x : Int)
structure TR (w : World) (B : Nat) (v1 v2 : Value) (A : List Rw) (F : List Nat) : Prop where
  o1 : w.ownsRow B 48 3 v1 A.length (rwsCells A)
  o2 : w.ownsRow B 3 1 v2 F.length (natV F)
  ne : v1.ownBlock = none ∨ v1.ownBlock ≠ v2.ownBlock
theorem rwsCells_add (l m : List Rw) : rwsCells (l ++ m) = rwsCells l ++ rwsCells m := by simp [rwsCells]
theorem TR.push1 {w w2 : World} {B g cap : Nat} {v1 v2 : Value} {A : List Rw} {F : List Nat} (t : TR w B v1 v2 A F) (o : Obj) (r : Rw) (hg : (w.alloc o).grownBy w2 v1.ownBlock)
    (ho : w2.ownsRow B 48 3 (.slice (some ⟨g, 0, none⟩) (A.length + 1) cap) (A.length + 1) (rwsCells A ++ [.int .i64 (r.deep : Int), .bool (!r.inner), .string r.text]))
    (hw : v1.ownBlock = some g ∨ g = w.heap.size + 1) : TR w2 B (.slice (some ⟨g, 0, none⟩) (A.length + 1) cap) v2 (A ++ [r]) F where
  o1 := by rw [rwsCells_add, List.length_append]; exact ho
  o2 := (t.o2.alloc o).kept hg (by
    rcases t.ne with h | h
    · cases hv : v2.ownBlock with
      | none => exact .inl rfl
      | some k => exact .inr (by rw [h]; intro e; cases e)
    · exact .inr fun e => h e.symm)
  ne := by
    refine .inr fun e => ?_
    have e' : v2.ownBlock = some g := e.symm
    have hl := (t.o2.lt g e').2
    rcases hw with h | h
    · rcases t.ne with q | q
      · rw [q] at h; cases h
      · exact q (h.trans e'.symm)
    · omega
theorem TR.push2 {w w2 : World} {B g cap : Nat} {v1 v2 : Value} {A : List Rw} {F : List Nat} (t : TR w B v1 v2 A F) (o : Obj) (r : Nat) (hg : (w.alloc o).grownBy w2 v2.ownBlock)
    (ho : w2.ownsRow B 3 1 (.slice (some ⟨g, 0, none⟩) (F.length + 1) cap) (F.length + 1) (natV F ++ [.int .i64 (r : Int)]))
    (hw : v2.ownBlock = some g ∨ g = w.heap.size + 1) : TR w2 B v1 (.slice (some ⟨g, 0, none⟩) (F.length + 1) cap) A (F ++ [r]) where
  o1 := (t.o1.alloc o).kept hg t.ne
  o2 := by rw [show natV (F ++ [r]) = natV F ++ [.int .i64 (r : Int)] by simp [natV], List.length_append]; exact ho
  ne := by
    rcases t.ne with q | q
    · exact .inl q
    refine .inr fun e => ?_
    have e' : v1.ownBlock = some g := e
    have hl := (t.o1.lt g e').2
    rcases hw with h | h
    · exact q (e'.trans h.symm)
    · omega
/-- Numbers in memory, as a list. -/
structure IL (w : World) (g : Nat) (l : List Nat) : Prop where
  lt : g < w.heap.size
  at_ : ∀ (j x : Nat), l[j]? = some x → w.cell? ⟨g, j, none⟩ = some (.int .i64 (x : Int))
theorem IL.heap {w w' : World} {g : Nat} {l : List Nat} (h : IL w g l) (hb : w'.heap[g]? = w.heap[g]?) : IL w' g l := by
  refine ⟨?_, fun j x hx => (cell_heap hb).trans (h.at_ j x hx)⟩
  have hl := h.lt
  rcases Nat.lt_or_ge g w'.heap.size with q | q
  · exact q
  · rw [Array.getElem?_eq_none q, Array.getElem?_eq_getElem hl] at hb; cases hb
theorem IL.of_own {w : World} {B g n cap : Nat} {l : List Nat} (h : w.ownsRow B 3 1 (.slice (some ⟨g, 0, none⟩) n cap) n (natV l)) (hg : g < w.heap.size) : IL w g l :=
  ⟨hg, fun j x hx => by
    have := h.cells (g := g) rfl j (.int .i64 (x : Int)) (by simp [natV, hx])
    have e : (⟨g, 0, none⟩ : Addr).add j = ⟨g, j, none⟩ := by unfold Addr.add; split <;> simp_all
    rw [e] at this; exact this⟩
theorem grown_at {w w2 : World} {o : Obj} {b : Option Nat} {g : Nat} (hg : (w.alloc o).grownBy w2 b) (h : g < w.heap.size) (hn : b ≠ some g) : w2.heap[g]? = w.heap[g]? := by
  rw [hg.block g (by simp; omega) (fun e => hn e.symm)]
  exact Below.heap_alloc _ _ _ h

end Go.Proofs.YtdaneedflpfeaaaDoor

namespace Go.Proofs.YtdaneedflpfeaaaDoor
set_option maxRecDepth 100000
open Go.RowKit

theorem own_shape {w : World} {base n : Nat} {e : TypeId} {size : Nat} {v : Value} {xs : List Value} (h : w.ownsRow base e size v n xs) : ∃ p c, v = .slice p n c := by
  rcases h.2 with ⟨h0, h1⟩ | ⟨g, cap, cur, rfl, _, hg, _⟩
  · exact ⟨none, 0, by rw [h0, h1]⟩
  · exact ⟨_, _, rfl⟩
theorem own_form' {w : World} {base n : Nat} {e : TypeId} {size : Nat} {v : Value} {xs : List Value} (h : w.ownsRow base e size v n xs) (hn : 0 < n) : ∃ g cap, v = .slice (some ⟨g, 0, none⟩) n cap ∧ g < w.heap.size := by
  rcases h.2 with ⟨_, h0⟩ | ⟨g, cap, cur, rfl, _, hg, _⟩
  · omega
  · exact ⟨g, cap, rfl, (Array.getElem?_eq_some_iff.1 hg).1⟩
def apart (v u : Value) : Prop := v.ownBlock = none ∨ v.ownBlock ≠ u.ownBlock
theorem TR.keep {w w2 : World} {B : Nat} {v1 v2 : Value} {A : List Rw} {F : List Nat} (t : TR w B v1 v2 A F) (o : Obj) {u : Value} (hg : (w.alloc o).grownBy w2 u.ownBlock) (h1 : apart v1 u) (h2 : apart v2 u) : TR w2 B v1 v2 A F :=
  ⟨(t.o1.alloc o).kept hg h1, (t.o2.alloc o).kept hg h2, t.ne⟩
theorem TR.below {w w2 : World} {B : Nat} {v1 v2 : Value} {A : List Rw} {F : List Nat} (t : TR w B v1 v2 A F) (hb : Below w.heap.size w w2) : TR w2 B v1 v2 A F :=
  ⟨row_below t.o1 (fun j hj => (t.o1.lt j hj).2) hb, row_below t.o2 (fun j hj => (t.o2.lt j hj).2) hb, t.ne⟩
theorem apart_new {w : World} {v : Value} {g n cap : Nat} {u : Value} (hv : ∀ k, v.ownBlock = some k → k < w.heap.size) (h : apart v u) (hw : u.ownBlock = some g ∨ g = w.heap.size + 1) : apart v (.slice (some ⟨g, 0, none⟩) n cap) := by
  cases hb : v.ownBlock with
  | none => exact .inl hb
  | some k =>
    refine .inr ?_
    rw [hb]
    intro e
    have e' : k = g := by simpa [Value.ownBlock] using e
    rcases hw with q | q
    · rcases h with r | r
      · rw [r] at hb; cases hb
      · exact r (by rw [hb, q, e'])
    · have := hv k hb; omega
/-- A row's two slices, beside those of what stands below it. -/
structure TT (w : World) (B B2 : Nat) (v1 v2 va vf : Value) (A : List Rw) (F : List Nat) (YA : List Rw) (YF : List Nat) : Prop where
  t : TR w B v1 v2 A F
  s : TR w B2 va vf YA YF
  a1 : apart va v1 ∧ apart va v2
  a2 : apart vf v1 ∧ apart vf v2
theorem TT.push1 {w w2 : World} {B B2 g cap : Nat} {v1 v2 va vf : Value} {A YA : List Rw} {F YF : List Nat} (x : TT w B B2 v1 v2 va vf A F YA YF) (o : Obj) (r : Rw) (hg : (w.alloc o).grownBy w2 v1.ownBlock)
    (ho : w2.ownsRow B 48 3 (.slice (some ⟨g, 0, none⟩) (A.length + 1) cap) (A.length + 1) (rwsCells A ++ [.int .i64 (r.deep : Int), .bool (!r.inner), .string r.text]))
    (hw : v1.ownBlock = some g ∨ g = w.heap.size + 1) : TT w2 B B2 (.slice (some ⟨g, 0, none⟩) (A.length + 1) cap) v2 va vf (A ++ [r]) F YA YF :=
  ⟨x.t.push1 o r hg ho hw, x.s.keep o hg x.a1.1 x.a2.1, ⟨apart_new (w := w) (fun k hk => (x.s.o1.lt k hk).2) x.a1.1 hw, x.a1.2⟩, ⟨apart_new (w := w) (fun k hk => (x.s.o2.lt k hk).2) x.a2.1 hw, x.a2.2⟩⟩
theorem TT.push2 {w w2 : World} {B B2 g cap : Nat} {v1 v2 va vf : Value} {A YA : List Rw} {F YF : List Nat} (x : TT w B B2 v1 v2 va vf A F YA YF) (o : Obj) (r : Nat) (hg : (w.alloc o).grownBy w2 v2.ownBlock)
    (ho : w2.ownsRow B 3 1 (.slice (some ⟨g, 0, none⟩) (F.length + 1) cap) (F.length + 1) (natV F ++ [.int .i64 (r : Int)]))
    (hw : v2.ownBlock = some g ∨ g = w.heap.size + 1) : TT w2 B B2 v1 (.slice (some ⟨g, 0, none⟩) (F.length + 1) cap) va vf A (F ++ [r]) YA YF :=
  ⟨x.t.push2 o r hg ho hw, x.s.keep o hg x.a1.2 x.a2.2, ⟨x.a1.1, apart_new (w := w) (fun k hk => (x.s.o1.lt k hk).2) x.a1.2 hw⟩, ⟨x.a2.1, apart_new (w := w) (fun k hk => (x.s.o2.lt k hk).2) x.a2.2 hw⟩⟩
theorem RA.part {w : World} {g off : Nat} {l : List Rw} (h : RA w g off l) (a b : Nat) (hab : a ≤ b) (hb : b ≤ l.length) : RA w g (off + a * 3) (Dist.sg l a b) :=
  ⟨h.lt, fun j u hu => by
    have e : l = l.take a ++ (Dist.sg l a b ++ l.drop b) := by
      have h1 := Dist.sg_app l 0 a b (Nat.zero_le _) hab
      have h2 : Dist.sg l 0 a = l.take a := by simp [Dist.sg]
      have h3 : Dist.sg l 0 b = l.take b := by simp [Dist.sg]
      rw [h2, h3] at h1
      rw [← List.append_assoc, ← h1, List.take_append_drop]
    have hj : j < (rwsCells (Dist.sg l a b)).length := by
      rcases Nat.lt_or_ge j (rwsCells (Dist.sg l a b)).length with q | q
      · exact q
      · rw [List.getElem?_eq_none q] at hu; cases hu
    have := h.at_ (a * 3 + j) u (by
      rw [e, rwsCells_add, rwsCells_add, List.getElem?_append_right (by rw [rwsCells_len, List.length_take]; omega), rwsCells_len, List.length_take, Nat.min_eq_left (by omega), show a * 3 + j - a * 3 = j by omega, List.getElem?_append_left hj]
      exact hu)
    rw [← Nat.add_assoc] at this
    exact this⟩
theorem RA.empty {w : World} {g : Nat} (h : g < w.heap.size) (off : Nat) : RA w g off [] := ⟨h, fun j u hu => by simp [rwsCells] at hu⟩
def TreeR (w : World) (l : List Rw) (e : Ending) (w' : World) : Prop := Below w.heap.size w w' ∧ ∃ v1 v2, e = .returned (.tuple #[v1, v2]) ∧ TR w' w.heap.size v1 v2 ((poR l).map Prod.fst) ((poR l).map Prod.snd)

set_option maxHeartbeats 3200000 in
set_option maxRecDepth 100000 in
theorem refTree_any : ∀ (n : Nat) (l : List Rw) (g off cap : Nat) (w : World), l.length < n → l.length ≤ 10000 → l.length ≤ cap → cap ≤ maxLen → RA w g off l →
    Calls Tryd.prog 21 #[.slice (some ⟨g, off, none⟩) l.length cap] w fun e w' => TreeR w l e w' := by
  intro n
  induction n with
  | zero => intro l g off cap w h; omega
  | succ n ih =>
    intro l g off cap w hln hl hcap hcm hra
    have HN := hide hra
    have hgl := hra.lt
    have HIH := hide ih
    clear hra ih
    unfold TreeR
    obtain ⟨i0, hi, hz0, hz1, hz2⟩ := info_parts Tryd.infoRow
    obtain ⟨j0, hj, hy0, hy1, hy2⟩ := info_parts Tryd.infoInt
    go_enter Tryd.func21, Tryd.ntmps21
    go_wp2_with fail
    go_loopw [4, 5, 6, 7, 8, 9, 10, 11, 35] (fun v1 v2 i _ _ _ _ _ _ wr => ∃ k : Nat, k ≤ l.length ∧ i = .int .i64 (k : Int) ∧ TR wr w.heap.size v1 v2 ((poR (l.take k)).map Prod.fst) ((poR (l.take k)).map Prod.snd) ∧ Hid (Edge l k) ∧ Below w.heap.size w wr) (fun _ _ i _ _ _ _ _ _ _ => l.length - (intOf i).toNat)
    case atStart => exact ⟨0, Nat.zero_le _, rfl, by rw [show poR (l.take 0) = [] by rw [List.take_zero, poR, Dist.fo, Dist.po]]; exact ⟨World.ownsRow_nil _ _ _ _, World.ownsRow_nil _ _ _ _, .inl rfl⟩, edge0 l, Below.refl _ _⟩
    case round =>
      obtain ⟨k, hk, rfl, ht, HED, hB⟩ := hrel
      have HT := hide ht
      have HB := hide hB
      have hsz := hB.size
      clear ht hB
      by_cases hlt : k < l.length
      · have HU : Hid (Calls Tryd.prog 38 #[.slice (some ⟨g, off, none⟩) l.length cap, .int .i64 (k : Int)] wr fun e w' => e = .returned (.int .i64 (undR l k : Int)) ∧ Below wr.heap.size wr w') := under_at l k g off cap wr (by omega) hlt ((unhide HN).below (unhide HB) hgl)
        obtain ⟨hstep, hed2⟩ := poR_step hlt (unhide HED)
        have hul := undR_le hlt
        have HSTEP := hide hstep
        have HED2 := hide hed2
        have hfst : k = ((poR (l.take k)).map Prod.fst).length := by rw [List.length_map, poR_len, List.length_take, Nat.min_eq_left hk]
        have hsnd : k = ((poR (l.take k)).map Prod.snd).length := by rw [List.length_map, poR_len, List.length_take, Nat.min_eq_left hk]
        have HFST := hide hfst
        have HSND := hide hsnd
        have hsub : (Dist.sg l (k + 1) (k + 1 + undR l k)).length = undR l k := by rw [Dist.sg_len _ _ _ hul]; omega
        have hYl := poR_len (Dist.sg l (k + 1) (k + 1 + undR l k))
        rw [hsub] at hYl
        have hYb : Hid (∀ (i : Nat) x f, (poR (Dist.sg l (k + 1) (k + 1 + undR l k)))[i]? = some (x, f) → f ≤ 10000) := fun i x f h => by
          have h1 := Dist.po_range _ 0 i x f h
          have h2 := (List.getElem?_eq_some_iff.1 h).1
          rw [hYl] at h2; omega
        have HREC : Hid (∀ w1, Below w.heap.size w w1 → ∀ off' c', (cap = k + 1 ∨ off' = off + (k + 1) * 3) → undR l k ≤ c' → c' ≤ maxLen → Calls Tryd.prog 21 #[.slice (some ⟨g, off', none⟩) (undR l k) c'] w1 fun e w' => TreeR w1 (Dist.sg l (k + 1) (k + 1 + undR l k)) e w') := fun w1 hb off' c' ho h1 h2 => by
          have hr := (unhide HN).below hb hgl
          have := unhide HIH (Dist.sg l (k + 1) (k + 1 + undR l k)) g off' c' w1 (by omega) (by omega) (by omega) h2 (by
            rcases ho with q | q
            · have : Dist.sg l (k + 1) (k + 1 + undR l k) = [] := List.length_eq_zero_iff.mp (by omega)
              rw [this]; exact RA.empty hr.lt _
            · rw [q]; exact hr.part _ _ (by omega) hul)
          rw [hsub] at this
          exact this
        obtain ⟨r0, r1, r2⟩ := ((unhide HN).below (unhide HB) hgl).cell (List.getElem?_eq_getElem hlt)
        clear r0 r1 r2
        generalize hYe : poR (Dist.sg l (k + 1) (k + 1 + undR l k)) = Y at *
        have HYE := hide hYe
        clear hYe
        have HSA : Hid ((poR (l.take (k + 1 + undR l k))).map Prod.fst = (poR (l.take k)).map Prod.fst ++ Y.map Prod.fst ++ [l[k]]) := by show _ = _; rw [unhide HSTEP]; simp [Function.comp_def]
        have HSF : Hid ((poR (l.take (k + 1 + undR l k))).map Prod.snd = (poR (l.take k)).map Prod.snd ++ Y.map (fun x => x.2 + k) ++ [k]) := by show _ = _; rw [unhide HSTEP]; simp [Function.comp_def]
        generalize (poR (l.take k)).map Prod.fst = A at *
        generalize (poR (l.take k)).map Prod.snd = F at *
        have hYl1 : Y.length ≤ undR l k := by omega
        have hYl2 : undR l k ≤ Y.length := by omega
        have hcs : ((cap = k + 1) = True ∧ undR l k ≤ 0) ∨ (cap = k + 1) = False := by
          by_cases h : cap = k + 1
          · exact .inl ⟨eq_true h, by omega⟩
          · exact .inr (eq_false h)
        clear hstep hed2 hfst hsnd hsub hYl
        go_wp2_with fail
        refine (unhide HU).mono ?_
        rintro e w1 ⟨rfl, hB1⟩
        have HB1 := hide ((unhide HB).trans (hB1.mono hsz))
        have HT1 := hide ((unhide HT).below hB1)
        have hsz1 := hB1.size
        clear hB1 HT HB HU
        rcases hcs with ⟨hce, hu0⟩ | hce
        all_goals
          go_wp2_with fail
          refine (unhide HREC _ (unhide HB1) _ _ (by first | exact .inl (of_eq_true hce) | exact .inr rfl) (by omega) (by omega)).mono ?_
          rintro e w2 ⟨hB2, va, vf, rfl, hs2⟩
          rw [unhide HYE] at hs2
          have ht2 := (unhide HT1).below hB2
          have htt : TT w2 w.heap.size w1.heap.size u4 u5 va vf A F (Y.map Prod.fst) (Y.map Prod.snd) := by
            have l1 := (unhide HT1).o1.lt
            have l2 := (unhide HT1).o2.lt
            have m1 := hs2.o1.lt
            have m2 := hs2.o2.lt
            have key : ∀ (v u : Value), (∀ j, v.ownBlock = some j → w1.heap.size ≤ j ∧ j < w2.heap.size) → (∀ j, u.ownBlock = some j → w.heap.size ≤ j ∧ j < w1.heap.size) → apart v u := fun v u hv hu => by
              cases hb : v.ownBlock with
              | none => exact .inl hb
              | some x =>
                refine .inr fun e => ?_
                have a1 := hv x hb
                have a2 := hu x (by rw [← e, hb])
                omega
            exact ⟨ht2, hs2, ⟨key _ _ m1 l1, key _ _ m1 l2⟩, ⟨key _ _ m2 l1, key _ _ m2 l2⟩⟩
          have HB2 := hide ((unhide HB1).trans (hB2.mono (by omega)))
          have hsz2 := hB2.size
          obtain ⟨p1, c1, he1⟩ := own_shape ht2.o1
          rw [← unhide HFST] at he1
          subst he1
          obtain ⟨pa, ca, hea⟩ := own_shape hs2.o1
          rw [List.length_map] at hea
          subst hea
          have HTT := hide htt
          clear hB2 hs2 ht2 htt HT1
          go_wp2_with fail
          go_loopw [4, 5, 11, 35] (fun v1 v2 _ j wr => ∃ i : Nat, i ≤ Y.length ∧ j = .int .i64 (i : Int) ∧ TT wr w.heap.size w1.heap.size v1 v2 (.slice pa Y.length ca) vf (A ++ (Y.take i).map Prod.fst) (F ++ (Y.take i).map (fun x => x.2 + k)) (Y.map Prod.fst) (Y.map Prod.snd) ∧ Below w.heap.size w wr) (fun _ _ _ j _ => Y.length - (intOf j).toNat)
          case atStart => exact ⟨0, Nat.zero_le _, rfl, by simpa using unhide HTT, unhide HB2⟩
          case round =>
            clear HTT HB2
            obtain ⟨i, hil, rfl, htt, hB⟩ := hrel
            have HTT := hide htt
            have HB := hide hB
            have hszr := hB.size
            by_cases hiY : i < Y.length
            · first
                | (exfalso; omega)
                | skip
              all_goals
                obtain ⟨ga, ca', hea, hga⟩ := own_form' htt.s.o1 (by rw [List.length_map]; omega)
                rw [List.length_map] at hea
                obtain ⟨gf, cf, hef, hgf⟩ := own_form' htt.s.o2 (by rw [List.length_map]; omega)
                rw [List.length_map] at hef
                cases hea
                subst hef
                obtain ⟨⟨y, f⟩, hy⟩ : ∃ y, Y[i]? = some y := ⟨_, List.getElem?_eq_getElem hiY⟩
                have hf := unhide hYb i y f hy
                have htk : Y.take (i + 1) = Y.take i ++ [(y, f)] := by
                  rw [List.take_succ_eq_append_getElem hiY]
                  rw [List.getElem?_eq_getElem hiY] at hy
                  rw [Option.some.inj hy]
                have o1 := htt.s.o1
                have o2 := htt.s.o2
                rw [List.length_map] at o1 o2
                obtain ⟨a0, a1, a2⟩ := (RA.of_own (n := Y.length) (by rw [List.length_map]; exact o1) hga (by rw [List.length_map])).cell0 (i := i) (x := y) (by rw [List.getElem?_map, hy]; rfl)
                have HIL := hide (IL.of_own o2 hgf)
                have hYf : (Y.map Prod.snd)[i]? = some f := by rw [List.getElem?_map, hy]; rfl
                have HYF := hide hYf
                have hlA : (A ++ (Y.take i).map Prod.fst).length ≤ 30000 := by rw [List.length_append, List.length_map, List.length_take, ← unhide HFST]; omega
                have hlF : (F ++ (Y.take i).map (fun x => x.2 + k)).length ≤ 30000 := by rw [List.length_append, List.length_map, List.length_take, ← unhide HSND]; omega
                have HTK : Hid (A ++ (Y.take (i + 1)).map Prod.fst = (A ++ (Y.take i).map Prod.fst) ++ [y] ∧ F ++ (Y.take (i + 1)).map (fun x => x.2 + k) = (F ++ (Y.take i).map (fun x => x.2 + k)) ++ [f + k]) := by rw [htk]; exact ⟨by simp, by simp⟩
                clear htt hB hy htk o1 o2 hYf
                generalize A ++ (Y.take i).map Prod.fst = A1 at *
                generalize F ++ (Y.take i).map (fun x => x.2 + k) = F1 at *
                have c1 := rwsCells_len A1
                go_wp2_with (first
                  | (at_builtin; refine wpList_append_lies _ rfl (.tmp 38) (.tmp 43) 25 rfl w.heap.size 48 i0 (.agg #[.int .i64 0, .bool false, .string ⟨#[]⟩]) 3 32 Tryd.underlying25 hi hz0 hz1 hz2 rfl (by decide) _ A1.length (rwsCells A1) rfl ((unhide HTT).t.o1.alloc _) ⟨wr.heap.size, 0, none⟩ 1 1 [.int .i64 (y.deep : Int), .bool (!y.inner), .string y.text] rfl rfl (rw_news _ _ _ (heap_alloc_new _ _)) (rw_one _ _ _) (by decide) (by unfold maxLen; omega) (by omega) (by simp; omega) (wr.heap.size + 1) (by simp) ?_)
                  | fail)
                intro g3 cap3 w3 hown3 hgrow3 hg3 hlt3
                have htt3 := (unhide HTT).push1 _ y hgrow3 hown3 hg3
                have HB3 : Hid (Below w.heap.size w w3) := ((unhide HB).alloc hszr _).grown hgrow3 (by simp; omega) (fun j hj => ((unhide HTT).t.o1.lt j hj).1)
                have il3 := (IL.of_own (by have := htt3.s.o2; rw [List.length_map] at this; exact this) (by have := hgrow3.size; simp at this; omega)).at_ i f (unhide HYF)
                have hsz3 : wr.heap.size + 1 ≤ w3.heap.size := by have := hgrow3.size; simpa using this
                have HTT3 := hide htt3
                clear hown3 hgrow3 htt3 HIL HTT HB a0 a1 a2
                go_wp2_with (first
                  | (at_builtin; refine wpList_append_lies _ rfl (.tmp 45) (.tmp 52) 57 rfl w.heap.size 3 j0 (.int .i64 0) 1 8 Tryd.underlying57 hj hy0 hy1 hy2 rfl (by decide) _ F1.length (natV F1) rfl ((unhide HTT3).t.o2.alloc _) ⟨w3.heap.size, 0, none⟩ 1 1 [.int .i64 ((f : Int) + (k : Int))] rfl rfl (news_of (heap_alloc_new _ _)) (by intro u hu; simp at hu; subst hu; rfl) (by decide) (by unfold maxLen; omega) (by omega) (by simp; omega) (w3.heap.size + 1) (by simp) ?_)
                  | fail)
                intro g4 cap4 w4 hown4 hgrow4 hg4 hlt4
                have htt4 := (unhide HTT3).push2 _ (f + k) hgrow4 (by rw [Int.natCast_add]; exact hown4) hg4
                have HB4 : Hid (Below w.heap.size w w4) := ((unhide HB3).alloc (by omega) _).grown hgrow4 (by simp; omega) (fun j hj => ((unhide HTT3).t.o2.lt j hj).1)
                have HTT4 := hide htt4
                clear hown4 hgrow4 htt4 HTT3 HB3 il3
                go_wp2_with fail
                go_roundw
                case rel => exact ⟨i + 1, by omega, by go_num, by rw [(unhide HTK).1, (unhide HTK).2]; exact unhide HTT4, unhide HB4⟩
                case measure => simp [intOf]; omega
            · have hiY' : i = Y.length := by omega
              subst hiY'
              rw [List.take_length] at htt
              obtain ⟨r0, r1, r2⟩ := ((unhide HN).below hB hgl).cell (List.getElem?_eq_getElem hlt)
              have hlA : (A ++ Y.map Prod.fst).length ≤ 30000 := by rw [List.length_append, List.length_map, ← unhide HFST]; omega
              have hlF : (F ++ Y.map (fun x => x.2 + k)).length ≤ 30000 := by rw [List.length_append, List.length_map, ← unhide HSND]; omega
              have HT5 := hide htt.t
              clear HTT htt hB
              generalize l[k]'hlt = y at *
              generalize A ++ Y.map Prod.fst = A1 at *
              generalize F ++ Y.map (fun x => x.2 + k) = F1 at *
              have c1 := rwsCells_len A1
              go_wp2_with (first
                | (at_builtin; refine wpList_append_lies _ rfl (.tmp 55) (.tmp 60) 25 rfl w.heap.size 48 i0 (.agg #[.int .i64 0, .bool false, .string ⟨#[]⟩]) 3 32 Tryd.underlying25 hi hz0 hz1 hz2 rfl (by decide) _ A1.length (rwsCells A1) rfl ((unhide HT5).o1.alloc _) ⟨wr.heap.size, 0, none⟩ 1 1 [.int .i64 (y.deep : Int), .bool (!y.inner), .string y.text] rfl rfl (rw_news _ _ _ (heap_alloc_new _ _)) (rw_one _ _ _) (by decide) (by unfold maxLen; omega) (by omega) (by simp; omega) (wr.heap.size + 1) (by simp) ?_)
                | fail)
              intro g3 cap3 w3 hown3 hgrow3 hg3 hlt3
              have ht3 := (unhide HT5).push1 _ y hgrow3 hown3 hg3
              have HB3 : Hid (Below w.heap.size w w3) := ((unhide HB).alloc hszr _).grown hgrow3 (by simp; omega) (fun j hj => ((unhide HT5).o1.lt j hj).1)
              have hsz3 : wr.heap.size + 1 ≤ w3.heap.size := by have := hgrow3.size; simpa using this
              have HT3 := hide ht3
              clear hown3 hgrow3 ht3 HT5 HB r0 r1 r2
              go_wp2_with (first
                | (at_builtin; refine wpList_append_lies _ rfl (.tmp 62) (.tmp 64) 57 rfl w.heap.size 3 j0 (.int .i64 0) 1 8 Tryd.underlying57 hj hy0 hy1 hy2 rfl (by decide) _ F1.length (natV F1) rfl ((unhide HT3).o2.alloc _) ⟨w3.heap.size, 0, none⟩ 1 1 [.int .i64 (k : Int)] rfl rfl (news_of (heap_alloc_new _ _)) (by intro u hu; simp at hu; subst hu; rfl) (by decide) (by unfold maxLen; omega) (by omega) (by simp; omega) (w3.heap.size + 1) (by simp) ?_)
                | fail)
              intro g4 cap4 w4 hown4 hgrow4 hg4 hlt4
              have ht4 := (unhide HT3).push2 _ k hgrow4 hown4 hg4
              have HB4 : Hid (Below w.heap.size w w4) := ((unhide HB3).alloc (by omega) _).grown hgrow4 (by simp; omega) (fun j hj => ((unhide HT3).o2.lt j hj).1)
              have HT4 := hide ht4
              clear hown4 hgrow4 ht4 HT3 HB3
              go_wp2_with fail
              go_roundw
              case rel => exact ⟨k + 1 + undR l k, hul, by go_num, by rw [unhide HSA, unhide HSF]; exact unhide HT4, HED2, unhide HB4⟩
              case measure => simp [intOf]; omega
      · have hkl : k = l.length := by omega
        subst hkl
        rw [List.take_length] at HT
        go_wp2_with fail
        go_ret2
        exact ⟨unhide HB, _, _, rfl, unhide HT⟩

end Go.Proofs.YtdaneedflpfeaaaDoor

namespace Go.Proofs.YtdaneedflpfeaaaDoor
set_option maxRecDepth 100000
open Go.RowKit

def labW (r : Rw) : Bool × ByteArray := (r.inner, r.text)
/-- The fewest steps between two beginnings. -/
def vP (X Y : List (Rw × Nat)) (a b p q : Nat) : Int := (Dist.dP labW X Y a (a + p) b (b + q) : Int)
/-- The fewest steps between two subtrees. -/
def dQ (X Y : List (Rw × Nat)) (u v : Nat) : Int := match X[u]?, Y[v]? with
  | some (_, f), some (_, g) => (Dist.dP labW X Y f (u + 1) g (v + 1) : Int)
  | _, _ => 0
theorem vP_zero {X Y : List (Rw × Nat)} (hY : Dist.Nest Y) {a b j q : Nat} {y : Rw} (hj : Y[j]? = some (y, b)) (hq : b + q ≤ j + 1) : vP X Y a b 0 q = q := by
  have hl := (List.getElem?_eq_some_iff.1 hj).1
  unfold vP
  rw [Nat.add_zero, Dist.dP_end hY a b (b + q) (by omega) (by omega) ((Dist.From.of hY hj).mono hq)]
  omega
theorem vP_zero' {X Y : List (Rw × Nat)} (hX : Dist.Nest X) {a b i p : Nat} {x : Rw} (hi : X[i]? = some (x, a)) (hp : a + p ≤ i + 1) : vP X Y a b p 0 = p := by
  have hl := (List.getElem?_eq_some_iff.1 hi).1
  unfold vP
  rw [Nat.add_zero, Dist.dP_end' hX a b (a + p) (by omega) (by omega) ((Dist.From.of hX hi).mono hp)]
  omega
theorem dl_size' {α : Type} [DecidableEq α] (f g : Dist.Fo α) : Dist.dl f g ≤ f.size + g.size := by
  have h1 := Dist.dl_tri f .nil g
  rw [Dist.dl_nil, Dist.dl_nil'] at h1
  exact h1
theorem vP_le {X Y : List (Rw × Nat)} (hX : Dist.Nest X) (hY : Dist.Nest Y) {a b i j p q : Nat} {x y : Rw} (hi : X[i]? = some (x, a)) (hj : Y[j]? = some (y, b)) (hp : a + p ≤ i + 1) (hq : b + q ≤ j + 1) : 0 ≤ vP X Y a b p q ∧ vP X Y a b p q ≤ p + q := by
  have hl := (List.getElem?_eq_some_iff.1 hi).1
  have hl' := (List.getElem?_eq_some_iff.1 hj).1
  have h := dl_size' ((Dist.pf X a (a + p)).map labW) ((Dist.pf Y b (b + q)).map labW)
  rw [Dist.map_size, Dist.map_size, Dist.pf_size hX a (a + p) (by omega) (by omega) ((Dist.From.of hX hi).mono hp), Dist.pf_size hY b (b + q) (by omega) (by omega) ((Dist.From.of hY hj).mono hq)] at h
  unfold vP Dist.dP
  omega
theorem dQ_le {X Y : List (Rw × Nat)} (hX : Dist.Nest X) (hY : Dist.Nest Y) {u v : Nat} (hu : u < X.length) (hv : v < Y.length) : 0 ≤ dQ X Y u v ∧ dQ X Y u v ≤ X.length + Y.length := by
  obtain ⟨⟨x, f⟩, hx⟩ : ∃ x, X[u]? = some x := ⟨_, List.getElem?_eq_getElem hu⟩
  obtain ⟨⟨y, g⟩, hy⟩ : ∃ y, Y[v]? = some y := ⟨_, List.getElem?_eq_getElem hv⟩
  have h1 := hX.le u x f hx
  have h2 := hY.le v y g hy
  have := vP_le hX hY hx hy (p := u + 1 - f) (q := v + 1 - g) (by omega) (by omega)
  unfold vP at this
  rw [show f + (u + 1 - f) = u + 1 by omega, show g + (v + 1 - g) = v + 1 by omega] at this
  unfold dQ
  rw [hx, hy]
  simp only
  omega
theorem vP_step {X Y : List (Rw × Nat)} (hX : Dist.Nest X) (hY : Dist.Nest Y) {a b p q fu gv : Nat} {x y : Rw} (hu : X[a + p]? = some (x, fu)) (hv : Y[b + q]? = some (y, gv)) (h1 : a ≤ fu) (h2 : b ≤ gv) (K : Int)
    (hK : (fu = a ∧ gv = b ∧ K = vP X Y a b p q + (Dist.rel (labW x) (labW y) : Int)) ∨ K = vP X Y a b (fu - a) (gv - b) + dQ X Y (a + p) (b + q)) :
    vP X Y a b (p + 1) (q + 1) = min (min (vP X Y a b p (q + 1) + 1) (vP X Y a b (p + 1) q + 1)) K := by
  have key : ∀ k : Nat, (fu = a ∧ gv = b ∧ k = Dist.dP labW X Y a (a + p) b (b + q) + Dist.rel (labW x) (labW y)) ∨ k = Dist.dP labW X Y a fu b gv + Dist.dP labW X Y fu (a + p + 1) gv (b + q + 1) → vP X Y a b (p + 1) (q + 1) = min (min (vP X Y a b p (q + 1) + 1) (vP X Y a b (p + 1) q + 1)) (k : Int) := by
    intro k hk
    have := Dist.dP_step (h := labW) hX hY hu hv h1 h2 k hk
    unfold vP
    rw [show a + (p + 1) = a + p + 1 by omega, show b + (q + 1) = b + q + 1 by omega, this]
    omega
  rcases hK with ⟨e1, e2, e3⟩ | e
  · have := key _ (.inl ⟨e1, e2, rfl⟩)
    rw [this, e3]
    unfold vP
    simp
  · have := key _ (.inr rfl)
    rw [this, e]
    unfold vP dQ
    rw [hu, hv, show a + (fu - a) = fu by omega, show b + (gv - b) = gv by omega]
    simp

end Go.Proofs.YtdaneedflpfeaaaDoor
