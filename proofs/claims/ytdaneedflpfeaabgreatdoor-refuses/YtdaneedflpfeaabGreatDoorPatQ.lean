import Derived.Test.YtdaneedflpfeaabGreatDoorRead
import Derived.Test.YtdaneedflpfeaabGreatDoorStr
import Derived.Test.YtdaneedflpfeaabGreatDoorPatG
import Derived.Test.YtdaneedflpfeaabGreatDoorPatF
namespace Go.Proofs.YtdaneedflpfeaabGreatDoor
set_option maxRecDepth 100000
open Go.RowKit

theorem cell_heap {w w' : World} {a : Addr} (h : w'.heap[a.block]? = w.heap[a.block]?) : w'.cell? a = w.cell? a := by
  unfold World.cell?; rw [h]
theorem ba_same {a b : ByteArray} (h : a.toList = b.toList) : a = b := by
  rw [Go.ByteArray.toList_eq, Go.ByteArray.toList_eq] at h
  exact ByteArray.ext (Array.toList_inj.mp h)
/-- Nodes that lie in a block, from a cell on. -/
structure NA (w : World) (g off : Nat) (l : List Nd) : Prop where
  lt : g < w.heap.size
  at_ : ∀ j u, (ndsCells l)[j]? = some u → w.cell? ⟨g, off + j, none⟩ = some u
theorem NA.below {w w' : World} {g off B : Nat} {l : List Nd} (h : NA w g off l) (hb : Below B w w') (hB : g < B) : NA w' g off l :=
  ⟨by have := hb.size; have := h.lt; omega, fun j u hu => (cell_heap (hb.block g hB)).trans (h.at_ j u hu)⟩
theorem NA.heap {w w' : World} {g off : Nat} {l : List Nd} (h : NA w g off l) (hb : w'.heap[g]? = w.heap[g]?) : NA w' g off l := by
  refine ⟨?_, fun j u hu => (cell_heap hb).trans (h.at_ j u hu)⟩
  have hl := h.lt
  rcases Nat.lt_or_ge g w'.heap.size with q | q
  · exact q
  · rw [Array.getElem?_eq_none q, Array.getElem?_eq_getElem hl] at hb; cases hb
theorem NA.cell {w : World} {g off : Nat} {l : List Nd} (h : NA w g off l) {i : Nat} {x : Nd} (hx : l[i]? = some x) :
    w.cell? ⟨g, off + i * 3, none⟩ = some (.bool x.inner) ∧ w.cell? ⟨g, off + i * 3 + 1, none⟩ = some (.string x.text) ∧ w.cell? ⟨g, off + i * 3 + 2, none⟩ = some (.int .i64 x.depth) := by
  refine ⟨h.at_ (i * 3) _ ?_, h.at_ (i * 3 + 1) _ ?_, h.at_ (i * 3 + 2) _ ?_⟩
  · have := ndsCells_get l i 0 (by omega); rw [Nat.add_zero] at this; rw [this, hx]; rfl
  · rw [ndsCells_get l i 1 (by omega), hx]; rfl
  · rw [ndsCells_get l i 2 (by omega), hx]; rfl
theorem NA.cell0 {w : World} {g : Nat} {l : List Nd} (h : NA w g 0 l) {i : Nat} {x : Nd} (hx : l[i]? = some x) :
    w.cell? ⟨g, i * 3, none⟩ = some (.bool x.inner) ∧ w.cell? ⟨g, i * 3 + 1, none⟩ = some (.string x.text) ∧ w.cell? ⟨g, i * 3 + 2, none⟩ = some (.int .i64 x.depth) := by
  have := h.cell hx
  simpa only [Nat.zero_add] using this
theorem ndsCells_split (l m : List Nd) : ndsCells (l ++ m) = ndsCells l ++ ndsCells m := by simp [ndsCells]
theorem NA.drop {w : World} {g off : Nat} {l : List Nd} (h : NA w g off l) (k : Nat) (hk : k ≤ l.length) : NA w g (off + k * 3) (l.drop k) :=
  ⟨h.lt, fun j u hu => by
    have := h.at_ (k * 3 + j) u (by
      rw [← List.take_append_drop k l, ndsCells_split, List.getElem?_append_right (by rw [ndsCells_len, List.length_take]; omega), ndsCells_len, List.length_take, show k * 3 + j - min k l.length * 3 = j by rw [Nat.min_eq_left hk]; omega]
      exact hu)
    rw [← Nat.add_assoc] at this
    exact this⟩
theorem NA.take {w : World} {g off : Nat} {l : List Nd} (h : NA w g off l) (k : Nat) : NA w g off (l.take k) :=
  ⟨h.lt, fun j u hu => h.at_ j u (by
    have hj : j < (ndsCells (l.take k)).length := by
      rcases Nat.lt_or_ge j (ndsCells (l.take k)).length with q | q
      · exact q
      · rw [List.getElem?_eq_none q] at hu; cases hu
    have e : ndsCells l = ndsCells (l.take k) ++ ndsCells (l.drop k) := by rw [← ndsCells_split, List.take_append_drop]
    rw [e, List.getElem?_append_left hj]
    exact hu)⟩
theorem NA.of_own {w : World} {base g cap n : Nat} {l : List Nd} (h : w.ownsRow base 54 3 (.slice (some ⟨g, 0, none⟩) n cap) l.length (ndsCells l)) (hg : g < w.heap.size) (hn : n = l.length) : NA w g 0 l :=
  ⟨hg, fun j u hu => by
    subst hn
    have hj : j < (ndsCells l).length := by
      rcases Nat.lt_or_ge j (ndsCells l).length with q | q
      · exact q
      · rw [List.getElem?_eq_none q] at hu; cases hu
    rw [ndsCells_len] at hj
    rw [Nat.zero_add, h.cellAt j hj]; exact hu⟩

/-- Where what stands deeper ends. -/
def goE (l : List Nd) (d : Int) (e : Nat) : Nat := if h : e < l.length then (if d < (l[e]).depth then goE l d (e + 1) else e) else e
  termination_by l.length - e
theorem goE_le (l : List Nd) (d : Int) (e : Nat) (h : e ≤ l.length) : e ≤ goE l d e ∧ goE l d e ≤ l.length := by
  induction e using goE.induct l d with
  | case1 e h1 h2 ih => rw [goE, dif_pos h1, if_pos h2]; have := ih (by omega); omega
  | case2 e h1 h2 => rw [goE, dif_pos h1, if_neg h2]; omega
  | case3 e h1 => rw [goE, dif_neg h1]; omega
def subE (l : List Nd) (k : Nat) : Nat := match l[k]? with | some x => goE l x.depth (k + 1) | none => k + 1
theorem subE_le {l : List Nd} {k : Nat} (h : k < l.length) : k + 1 ≤ subE l k ∧ subE l k ≤ l.length := by
  unfold subE
  rw [List.getElem?_eq_getElem h]
  exact goE_le l _ _ h

set_option maxHeartbeats 1600000 in
theorem subtreeEnd_any (l : List Nd) (k g cap : Nat) (w : World) (hl : l.length ≤ 1000000) (hk : k < l.length) (hn : NA w g 0 l) :
    Calls Tryz.prog 66 #[.slice (some ⟨g, 0, none⟩) l.length cap, .int .i64 (k : Int)] w fun e w' => e = .returned (.int .i64 (subE l k : Int)) ∧ Below w.heap.size w w' := by
  have HN := hide hn
  have hgl := hn.lt
  obtain ⟨y, hy⟩ : ∃ y, l[k]? = some y := ⟨_, List.getElem?_eq_getElem hk⟩
  have HS : Hid (subE l k = goE l y.depth (k + 1)) := by show subE l k = _; rw [subE, hy]
  have HY := hide hy
  clear hn hy
  go_enter Tryz.func66, Tryz.ntmps66
  go_wp2_with fail
  go_loopw [5] (fun i wr => ∃ e : Nat, k + 1 ≤ e ∧ e ≤ l.length ∧ i = .int .i64 e ∧ Hid (goE l y.depth e = goE l y.depth (k + 1)) ∧ Below w.heap.size w wr) (fun i _ => l.length - (intOf i).toNat)
  case atStart => exact ⟨k + 1, by omega, by omega, by go_num, rfl, Below.refl _ _⟩
  case round =>
    obtain ⟨e, he1, he2, rfl, HE, hB⟩ := hrel
    have hna := (unhide HN).below hB hgl
    obtain ⟨_, _, k2⟩ := hna.cell0 (unhide HY)
    have HB := hide hB
    by_cases hlt : e < l.length
    · have hx : l[e]? = some l[e] := List.getElem?_eq_getElem hlt
      obtain ⟨_, _, e2⟩ := hna.cell0 hx
      have HG := hide (goE.eq_1 l y.depth e)
      clear hna hB hx
      by_cases hd : y.depth < (l[e]).depth
      · have HE2 : Hid (goE l y.depth (e + 1) = goE l y.depth (k + 1)) := by show _ = _; rw [← unhide HE, unhide HG, dif_pos hlt, if_pos hd]
        clear HG HE
        generalize (l[e]'hlt) = x at *
        go_wp2_with fail
        go_quiet (fail)
        go_wp2_with fail
        go_roundw
        case rel => exact ⟨e + 1, by omega, by omega, by go_num, HE2, (unhide HB).trans (below_drewN' _ _ _)⟩
        case measure => simp [intOf]; omega
      · have HE2 : Hid (goE l y.depth (k + 1) = e) := by show _ = _; rw [← unhide HE, unhide HG, dif_pos hlt, if_neg hd]
        clear HG HE
        generalize (l[e]'hlt) = x at *
        go_wp2_with fail
        go_quiet (fail)
        go_wp2_with fail
        go_ret
        exact ⟨ret_int (by rw [unhide HS, unhide HE2]), (unhide HB).trans (below_drewN' _ _ _)⟩
    · have HE2 : Hid (goE l y.depth (k + 1) = e) := by show _ = _; rw [← unhide HE, goE, dif_neg hlt]
      clear hna hB
      go_wp2_with fail
      go_quiet (fail)
      go_wp2_with fail
      go_ret
      exact ⟨ret_int (by rw [unhide HS, unhide HE2]), (unhide HB).trans (below_drewN' _ _ _)⟩

end Go.Proofs.YtdaneedflpfeaabGreatDoor

namespace Go.Proofs.YtdaneedflpfeaabGreatDoor
set_option maxRecDepth 100000
open Go.RowKit

/-- Where so many subtrees end. -/
def pastE (l : List Nd) (limit : Nat) : Nat → Nat → Nat × Bool
  | 0, a => (a, true)
  | n + 1, a => if limit ≤ a then (a, false) else pastE l limit n (subE l a)
theorem pastE_le {l : List Nd} {limit : Nat} (hl : limit ≤ l.length) (n a : Nat) (ha : a ≤ l.length) : a ≤ (pastE l limit n a).1 ∧ (pastE l limit n a).1 ≤ l.length := by
  induction n generalizing a with
  | zero => exact ⟨Nat.le_refl _, ha⟩
  | succ n ih =>
    rw [pastE]
    split
    · exact ⟨Nat.le_refl _, ha⟩
    · have := subE_le (l := l) (k := a) (by omega)
      have := ih (subE l a) (by omega)
      omega
def pastR (p : Nat × Bool) : Ending := .returned (.tuple #[.int .i64 (p.1 : Int), .bool p.2])

set_option maxHeartbeats 1600000 in
theorem pastSubtrees_any (l : List Nd) (f limit n g cap : Nat) (w : World) (hl : l.length ≤ 1000000) (hf : f ≤ l.length) (hlim : limit ≤ l.length) (hcnt : n ≤ 1000000) (hn : NA w g 0 l) :
    Calls Tryz.prog 73 #[.slice (some ⟨g, 0, none⟩) l.length cap, .int .i64 (f : Int), .int .i64 (limit : Int), .int .i64 (n : Int)] w fun e w' => e = pastR (pastE l limit n f) ∧ Below w.heap.size w w' := by
  have HN := hide hn
  have hgl := hn.lt
  clear hn
  go_enter Tryz.func73, Tryz.ntmps73
  go_wp2_with fail
  go_loopw [10, 11] (fun i c wr => ∃ a j : Nat, a ≤ l.length ∧ j ≤ n ∧ i = .int .i64 a ∧ c = .int .i64 j ∧ Hid (pastE l limit (n - j) a = pastE l limit n f) ∧ Below w.heap.size w wr) (fun _ c _ => n - (intOf c).toNat)
  case atStart => exact ⟨f, 0, hf, Nat.zero_le _, rfl, rfl, rfl, Below.refl _ _⟩
  case round =>
    obtain ⟨a, j, ha, hj, rfl, rfl, HE, hB⟩ := hrel
    have HB := hide hB
    have hsz := hB.size
    have HNA := hide ((unhide HN).below hB hgl)
    clear hB
    by_cases hlt : j < n
    · have HP : Hid (pastE l limit (n - j) a = if limit ≤ a then (a, false) else pastE l limit (n - (j + 1)) (subE l a)) := by
        show _ = _
        rw [show n - j = (n - (j + 1)) + 1 by omega, pastE]
      by_cases hla : limit ≤ a
      · have HR : Hid (pastE l limit n f = (a, false)) := by show _ = _; rw [← unhide HE, unhide HP, if_pos hla]
        clear HE HP
        go_wp2_with fail
        go_ret2
        rw [unhide HR]
        exact ⟨rfl, unhide HB⟩
      · have HE2 : Hid (pastE l limit (n - (j + 1)) (subE l a) = pastE l limit n f) := by show _ = _; rw [← unhide HE, unhide HP, if_neg hla]
        have hsub := subE_le (l := l) (k := a) (by omega)
        have HSU := hide (fun wx hx => subtreeEnd_any l a g cap wx hl (by omega) hx)
        clear HE HP
        generalize subE l a = z at *
        go_wp2_with fail
        refine (unhide HSU _ (unhide HNA)).mono ?_
        rintro e w1 ⟨rfl, hB1⟩
        have HB1 : Hid (Below w.heap.size w w1) := (unhide HB).trans (hB1.mono hsz)
        clear hB1
        go_wp2_with fail
        go_roundw
        case rel => exact ⟨z, j + 1, by omega, by omega, rfl, by go_num, HE2, unhide HB1⟩
        case measure => simp [intOf]; omega
    · have HR : Hid (pastE l limit n f = (a, true)) := by show _ = _; rw [← unhide HE, show n - j = 0 by omega]; rfl
      clear HE
      go_wp2_with fail
      go_ret2
      rw [unhide HR]
      exact ⟨rfl, unhide HB⟩

def shN (by_ : Int) (x : Nd) : Nd := { x with depth := x.depth + by_ }

set_option maxHeartbeats 1600000 in
theorem lowered_any (l : List Nd) (by_ : Int) (g off cap : Nat) (w : World) (hl : l.length ≤ 1000000) (hby : -1 ≤ by_ ∧ by_ ≤ 1) (hd : ∀ x ∈ l, -1000000 ≤ x.depth ∧ x.depth ≤ 1000000) (hn : NA w g off l) :
    Calls Tryz.prog 72 #[.slice (some ⟨g, off, none⟩) l.length cap, .int .i64 by_] w fun e w' => Below w.heap.size w w' ∧ ∃ v, e = .returned v ∧ w'.ownsRow w.heap.size 54 3 v l.length (ndsCells (l.map (shN by_))) := by
  obtain ⟨i0, hi, hz0, hz1, hz2⟩ := info_parts Tryz.infoNd
  have HN := hide hn
  have HD := hide hd
  have hgl := hn.lt
  clear hn hd
  go_enter Tryz.func72, Tryz.ntmps72
  go_wp2_with fail
  go_loopw [5, 7, 10] (fun v _ i wr => ∃ k : Nat, k ≤ l.length ∧ i = .int .i64 k ∧ wr.ownsRow w.heap.size 54 3 v k (ndsCells ((l.take k).map (shN by_))) ∧ Below w.heap.size w wr) (fun _ _ i _ => l.length - (intOf i).toNat)
  case atStart => exact ⟨0, Nat.zero_le _, rfl, World.ownsRow_nil _ _ _ _, Below.refl _ _⟩
  case round =>
    obtain ⟨k, hk, rfl, hown, hB⟩ := hrel
    have HB := hide hB
    have hsz := hB.size
    have hna := (unhide HN).below hB hgl
    by_cases hlt : k < l.length
    · have HO := hide hown
      have hx : l[k]? = some l[k] := List.getElem?_eq_getElem hlt
      obtain ⟨x0, x1, x2⟩ := hna.cell hx
      obtain ⟨hd0, hd1⟩ := unhide HD _ (List.getElem_mem hlt)
      have HT : Hid ((l.take (k + 1)).map (shN by_) = (l.take k).map (shN by_) ++ [shN by_ l[k]]) := by show _ = _; rw [List.take_succ_eq_append_getElem hlt, List.map_append]; rfl
      clear hna hB hown hx
      generalize (l[k]'hlt) = x at *
      generalize (l.take k).map (shN by_) = L at *
      go_wp2_with (first
        | (at_builtin; refine wpList_append_lies _ rfl (.tmp 19) (.tmp 21) 36 rfl w.heap.size 54 i0 (.agg #[.bool false, .string ⟨#[]⟩, .int .i64 0]) 3 32 Tryz.underlying36 hi hz0 hz1 hz2 rfl (by decide) _ k (ndsCells L) rfl (((unhide HO).alloc _).alloc _) ⟨wr.heap.size + 1, 0, none⟩ 1 1 [.bool x.inner, .string x.text, .int .i64 (x.depth + by_)] rfl rfl (nd_news _ _ _ (heap_alloc2_new _ _ _)) (nd_one _ _ _) (by decide) (by unfold maxLen; omega) (by omega) (by simp; omega) _ rfl ?_)
        | fail)
      intro g2 cap2 w2 hown2 hgrow _ hlt2
      have HB2 : Hid (Below w.heap.size w w2) := (((unhide HB).alloc hsz _).alloc (by simp; omega) _).grown hgrow (by simp; omega) (fun j hj => ((unhide HO).lt j hj).1)
      have HO2 := hide hown2
      clear hown2 hgrow HO HB
      go_wp2_with fail
      go_roundw
      case rel => exact ⟨k + 1, by omega, by go_num, by rw [unhide HT, ndsCells_snoc]; exact unhide HO2, unhide HB2⟩
      case measure => simp [intOf]; omega
    · have hke : k = l.length := by omega
      subst hke
      rw [List.take_length] at hown
      have HO := hide hown
      clear hown hB hna
      go_wp2_with fail
      go_ret
      exact ⟨unhide HB, _, rfl, unhide HO⟩

end Go.Proofs.YtdaneedflpfeaabGreatDoor

namespace Go.Proofs.YtdaneedflpfeaabGreatDoor
set_option maxRecDepth 100000
open Go.RowKit

/-- A row at hand, to be appended. -/
def Src (w : World) (u : Value) (m : List Nd) : Prop := (u = .slice none 0 0 ∧ m = []) ∨ ∃ g off cap, u = .slice (some ⟨g, off, none⟩) m.length cap ∧ NA w g off m
theorem Src.of_own {w : World} {base : Nat} {u : Value} {m : List Nd} (h : w.ownsRow base 54 3 u m.length (ndsCells m)) : Src w u m := by
  rcases row_form h with ⟨rfl, h0⟩ | ⟨g, cap, rfl, hg⟩
  · exact .inl ⟨rfl, List.eq_nil_of_length_eq_zero h0⟩
  · exact .inr ⟨g, 0, cap, rfl, NA.of_own h hg rfl⟩
theorem NA.grown {w w' : World} {row : Option Nat} {g off : Nat} {l : List Nd} (h : NA w g off l) (hg : w.grownBy w' row) (hr : row ≠ some g) : NA w' g off l := h.heap (hg.block g h.lt (fun e => hr e.symm))
theorem ndsCells_cell (l : List Nd) : ∀ u ∈ ndsCells l, u.oneCell' = true := by
  intro u hu
  simp only [ndsCells, List.mem_flatMap] at hu
  obtain ⟨x, _, hx⟩ := hu
  simp [ndCells] at hx
  rcases hx with rfl | rfl | rfl <;> rfl
theorem add_off (g off j : Nat) : (⟨g, off, none⟩ : Addr).add j = ⟨g, off + j, none⟩ := by unfold Addr.add; split <;> simp_all
/-- append(x, y...) of nodes. -/
theorem append_nds {w : World} {ops : Array Oper} {rest : List Oper} {o : Oper} {a : Act} {Q : Exit → Act → World → Prop} (hgd : o.guard = none) (s x : Operand)
    (ho : o.op = .call { callee := .builtin .append, args := #[s, x], argTypes := #[36, 36] }) (base : Nat) (v u : Value) (l m : List Nd)
    (hs : a.eval s = v) (hx : a.eval x = u) (hown : w.ownsRow base 54 3 v l.length (ndsCells l)) (hsrc : Src w u m) (hbase : base ≤ w.heap.size) (hfew : l.length + m.length ≤ 9999999)
    (h : ∀ F v' w', F = l ++ m → w'.ownsRow base 54 3 v' F.length (ndsCells F) → w.grownBy w' v.ownBlock → wpList Tryz.prog ops Q rest (a.put o.dst v') w') : wpList Tryz.prog ops Q (o :: rest) a w := by
  obtain ⟨i0, hi, hz0, hz1, hz2⟩ := info_parts Tryz.infoNd
  rcases hsrc with ⟨rfl, rfl⟩ | ⟨g, off, cap, rfl, hna⟩
  · refine wpList_append_own_none hgd s x 36 ho base 54 i0 3 Tryz.underlying36 hi v l.length (ndsCells l) hs hown hx ?_
    refine h _ v w rfl ?_ (grown_refl _ _)
    rw [List.append_nil]; exact hown
  · refine wpList_append_own w hgd s x 36 ho base 54 i0 (.agg #[.bool false, .string ⟨#[]⟩, .int .i64 0]) 3 32 Tryz.underlying36 hi hz0 hz1 hz2 rfl (by decide) v l.length (ndsCells l) hs hown ⟨g, off, none⟩ m.length cap (ndsCells m) hx (ndsCells_len m) (fun j u hu => by rw [add_off]; exact hna.at_ j u hu) (ndsCells_cell m) (by unfold maxLen; omega) (by omega) hbase ?_
    intro v' w' h1 h2 _
    refine h _ v' w' rfl ?_ h2
    rw [List.length_append, ndsCells_split]; exact h1

/-- What a step's function answers. -/
def ListR (w : World) (o : Option (List Nd)) (e : Ending) (w' : World) : Prop := Below w.heap.size w w' ∧ match o with
  | some m => ∃ v, e = .returned (.tuple #[v, .bool true]) ∧ w'.ownsRow w.heap.size 54 3 v m.length (ndsCells m)
  | none => e = .returned (.tuple #[.slice none 0 0, .bool false])
theorem map_sh0 (l : List Nd) : l.map (shN 0) = l := by
  induction l with
  | nil => rfl
  | cons x l ih => rw [List.map_cons, ih]; congr 1; simp [shN]
def Deep (l : List Nd) : Prop := ∀ x ∈ l, -1000000 ≤ x.depth ∧ x.depth ≤ 1000000
theorem Deep.take {l : List Nd} (h : Deep l) (k : Nat) : Deep (l.take k) := fun x hx => h x (List.mem_of_mem_take hx)
theorem Deep.drop {l : List Nd} (h : Deep l) (k : Nat) : Deep (l.drop k) := fun x hx => h x (List.mem_of_mem_drop hx)

/-- d K. -/
def remN (l : List Nd) (k : Nat) : Option (List Nd) := if k < 1 ∨ l.length ≤ k then none else some (l.take k ++ ((l.drop (k + 1)).take (subE l k - (k + 1))).map (shN (-1)) ++ l.drop (subE l k))

theorem NA.nil {w : World} {g : Nat} (h : g < w.heap.size) (off : Nat) : NA w g off [] := ⟨h, fun j u hu => by simp [ndsCells] at hu⟩
theorem lowered_n (l : List Nd) (n : Nat) (by_ : Int) (g off cap : Nat) (w : World) (hnl : n = l.length) (hl : l.length ≤ 1000000) (hby : -1 ≤ by_ ∧ by_ ≤ 1) (hd : Deep l) (hn : NA w g off l) :
    Calls Tryz.prog 72 #[.slice (some ⟨g, off, none⟩) n cap, .int .i64 by_] w fun e w' => Below w.heap.size w w' ∧ ∃ v, e = .returned v ∧ w'.ownsRow w.heap.size 54 3 v l.length (ndsCells (l.map (shN by_))) := by
  subst hnl; exact lowered_any l by_ g off cap w hl hby hd hn
/-- A part of nodes, wherever the model says that it begins. -/
theorem NA.part {w : World} {g : Nat} {l : List Nd} (h : NA w g 0 l) {a cap off : Nat} (ha : a ≤ l.length) (hcap : l.length ≤ cap) (ho : cap = a ∨ off = a * 3) : NA w g off (l.drop a) := by
  rcases ho with ho | ho
  · rw [List.drop_of_length_le (by omega)]; exact NA.nil h.lt off
  · have := h.drop a ha; rw [Nat.zero_add] at this; rw [ho]; exact this
theorem NA.part' {w : World} {g : Nat} {l : List Nd} (h : NA w g 0 l) {a cap off n c : Nat} (ha : a ≤ l.length) (hcap : l.length ≤ cap) (ho : cap = a ∨ off = a * 3) (hn : n = l.length - a) : Src w (.slice (some ⟨g, off, none⟩) n c) (l.drop a) :=
  .inr ⟨g, off, c, by rw [List.length_drop, hn], h.part ha hcap ho⟩
theorem NA.partI {w : World} {g : Nat} {l : List Nd} (h : NA w g 0 l) {a cap c : Nat} (ha : a ≤ l.length) (hcap : l.length ≤ cap) : Src w (.slice (if cap = a then some ⟨g, 0, none⟩ else some ⟨g, a * 3, none⟩) (l.length - a) c) (l.drop a) := by
  split
  · rename_i e; exact h.part' ha hcap (.inl e) rfl
  · exact h.part' ha hcap (.inr rfl) rfl
theorem Src.grown {w w' : World} {row : Option Nat} {u : Value} {m : List Nd} (h : Src w u m) (hg : w.grownBy w' row) (hr : ∀ j, u.ownBlock = some j → row ≠ some j) : Src w' u m := by
  rcases h with h | ⟨g, off, cap, rfl, hna⟩
  · exact .inl h
  · exact .inr ⟨g, off, cap, rfl, hna.grown hg (hr g rfl)⟩
theorem Src.below {w w' : World} {B : Nat} {u : Value} {m : List Nd} (h : Src w u m) (hb : Below B w w') (hB : ∀ j, u.ownBlock = some j → j < B) : Src w' u m := by
  rcases h with h | ⟨g, off, cap, rfl, hna⟩
  · exact .inl h
  · exact .inr ⟨g, off, cap, rfl, hna.below hb (hB g rfl)⟩
theorem below_app {w0 w w' : World} {base : Nat} {v : Value} {n : Nat} {xs : List Value} (hb : Below w0.heap.size w0 w) (hown : w.ownsRow base 54 3 v n xs) (hbase : w0.heap.size ≤ base) (hg : w.grownBy w' v.ownBlock) : Below w0.heap.size w0 w' :=
  hb.grown hg hb.size (fun j hj => by have := (hown.lt j hj).1; omega)

set_option maxHeartbeats 6400000 in
theorem remove_any (l : List Nd) (k g cap : Nat) (w : World) (hl : l.length ≤ 1000000) (hcap : l.length ≤ cap) (hcm : cap ≤ maxLen) (hk : k ≤ 1000000) (hd : Deep l) (hn : NA w g 0 l) :
    Calls Tryz.prog 53 #[.slice (some ⟨g, 0, none⟩) l.length cap, .int .i64 (k : Int)] w fun e w' => ListR w (remN l k) e w' := by
  by_cases hk1 : k < 1
  · have HR : Hid (remN l k = none) := by show _ = _; rw [remN, if_pos (.inl hk1)]
    go_enter Tryz.func53, Tryz.ntmps53
    go_wp2_with fail
    go_ret2
    rw [unhide HR]
    exact ⟨Below.refl _ _, rfl⟩
  by_cases hkl : l.length ≤ k
  · have HR : Hid (remN l k = none) := by show _ = _; rw [remN, if_pos (.inr hkl)]
    go_enter Tryz.func53, Tryz.ntmps53
    go_wp2_with fail
    go_ret2
    rw [unhide HR]
    exact ⟨Below.refl _ _, rfl⟩
  have HR : Hid (remN l k = some (l.take k ++ ((l.drop (k + 1)).take (subE l k - (k + 1))).map (shN (-1)) ++ l.drop (subE l k))) := by show _ = _; rw [remN, if_neg (by omega)]
  have hsub := subE_le (l := l) (k := k) (by omega)
  have HSU := hide (subtreeEnd_any l k g cap w hl (by omega) hn)
  have HN := hide hn
  have hgl := hn.lt
  have HD := hide hd
  clear hn hd
  generalize subE l k = z at *
  have hzc : z ≤ cap := by omega
  have hcm2 : (cap : Int) ≤ 9223372036854775807 := by unfold maxLen at hcm; omega
  have HL1 : Hid (∀ wx off' cap', NA wx g off' (l.drop (k + 1)) → Calls Tryz.prog 72 #[.slice (some ⟨g, off', none⟩) (z - (k + 1)) cap', .int .i64 (-1)] wx fun e w' => Below wx.heap.size wx w' ∧ ∃ v, e = .returned v ∧ w'.ownsRow wx.heap.size 54 3 v (((l.drop (k + 1)).take (z - (k + 1))).map (shN (-1))).length (ndsCells (((l.drop (k + 1)).take (z - (k + 1))).map (shN (-1))))) := fun wx off' cap' hx => by
    rw [List.length_map]
    exact lowered_n ((l.drop (k + 1)).take (z - (k + 1))) (z - (k + 1)) (-1) g off' cap' wx (by rw [List.length_take, List.length_drop]; omega) (by rw [List.length_take, List.length_drop]; omega) (by omega) (((unhide HD).drop _).take _) (hx.take _)
  have HL2 : Hid (∀ wx cap', NA wx g 0 l → Calls Tryz.prog 72 #[.slice (some ⟨g, 0, none⟩) k cap', .int .i64 0] wx fun e w' => Below wx.heap.size wx w' ∧ ∃ v, e = .returned v ∧ w'.ownsRow wx.heap.size 54 3 v (l.take k).length (ndsCells (l.take k))) := fun wx cap' hx => by
    have := lowered_n (l.take k) k 0 g 0 cap' wx (by rw [List.length_take]; omega) (by rw [List.length_take]; omega) (by omega) ((unhide HD).take _) (hx.take _)
    rw [map_sh0] at this
    exact this
  have hlC : (((l.drop (k + 1)).take (z - (k + 1))).map (shN (-1))).length ≤ 1000000 := by rw [List.length_map, List.length_take, List.length_drop]; omega
  have hlA : (l.take k).length ≤ 1000000 := by rw [List.length_take]; omega
  have hlE : (l.drop z).length ≤ 1000000 := by rw [List.length_drop]; omega
  go_enter Tryz.func53, Tryz.ntmps53
  go_wp2_with fail
  refine (unhide HSU).mono ?_
  rintro e w1 ⟨rfl, hB1⟩
  have hsz1 := hB1.size
  have HN1 := hide ((unhide HN).below hB1 hgl)
  have HB1 := hide hB1
  clear hB1 HSU
  go_wp2_with fail
  all_goals
    refine (unhide HL1 _ _ _ ((unhide HN1).part (cap := cap) (by omega) (by omega) (by first | exact .inr rfl | exact .inl (by omega)))).mono ?_
    rintro e w2 ⟨hB2, vc, rfl, hoC⟩
    have hsz2 := hB2.size
    have HN2 := hide ((unhide HN1).below hB2 (by omega))
    have HB2 : Hid (Below w.heap.size w w2) := (unhide HB1).trans (hB2.mono hsz1)
    have HSC := hide (Src.of_own hoC)
    have HCL : Hid (∀ j, vc.ownBlock = some j → j < w2.heap.size) := fun j hj => (hoC.lt j hj).2
    generalize ((l.drop (k + 1)).take (z - (k + 1))).map (shN (-1)) = C at *
    clear hB2 hoC HN1
    go_wp2_with fail
    refine (unhide HL2 _ _ (unhide HN2)).mono ?_
    rintro e w3 ⟨hB3, vm, rfl, hoM⟩
    have hsz3 := hB3.size
    have HN3 := hide ((unhide HN2).below hB3 (by omega))
    have HB3 : Hid (Below w.heap.size w w3) := (unhide HB2).trans (hB3.mono (by omega))
    have HSC3 := hide ((unhide HSC).below hB3 (unhide HCL))
    have HM := hide hoM
    generalize hA : l.take k = A at *
    have HA := hide hA
    clear hB3 hoM hA HN2 HSC
    go_wp2_with (first | (at_builtin; refine append_nds rfl _ _ rfl w2.heap.size vm vc A C rfl rfl (unhide HM) (unhide HSC3) hsz3 (by omega) ?_) | fail)
    intro AC vm4 w4 hAC hoM4 hg4
    have hlAC : AC.length ≤ 2000000 := by rw [hAC, List.length_append]; omega
    rw [← hAC] at HR
    clear hAC
    have hsz4 := hg4.size
    have HN4 := hide ((unhide HN3).grown hg4 (fun e => by have := ((unhide HM).lt g e).1; omega))
    have HB4 := hide (below_app (unhide HB3) (unhide HM) (by omega) hg4)
    have HM4 := hide hoM4
    clear hoM4 hg4
    go_wp2_with (first
      | (at_builtin; refine append_nds rfl _ _ rfl w2.heap.size vm4 (.slice (if cap = z then some ⟨g, 0, none⟩ else some ⟨g, z * 3, none⟩) (l.length - z) (cap - z)) AC (l.drop z) rfl rfl (unhide HM4) (NA.partI (unhide HN4) (by omega) (by omega)) (by omega) (by omega) ?_)
      | (at_builtin; refine append_nds rfl _ _ rfl w2.heap.size vm4 _ AC (l.drop z) rfl rfl (unhide HM4) (NA.part' (unhide HN4) (cap := cap) (by omega) (by omega) (by first | exact .inr rfl | exact .inl (by omega)) (by first | rfl | omega)) (by omega) (by omega) ?_)
      | fail)
    all_goals
      intro F vm5 w5 hF hoM5 hg5
      rw [← hF] at HR
      clear hF
      have HB5 := hide (below_app (unhide HB4) (unhide HM4) (by omega) hg5)
      have HM5 := hide hoM5
      clear hoM5 hg5
      go_wp2_with fail
      go_ret2
      rw [unhide HR]
      exact ⟨unhide HB5, _, rfl, ownsRow_base (unhide HM5) (by omega)⟩

end Go.Proofs.YtdaneedflpfeaabGreatDoor

namespace Go.Proofs.YtdaneedflpfeaabGreatDoor
set_option maxRecDepth 100000
open Go.RowKit

theorem own_frz {w : World} {base g cap n : Nat} {xs : List Value} (h : w.ownsRow base 54 3 (.slice (some ⟨g, 0, none⟩) n cap) n xs) : ∀ j, w.frozen? ⟨g, j, none⟩ = false := by
  rcases h.2 with ⟨h0, _⟩ | ⟨g', cap', cur, hv, _, hb, _⟩
  · cases h0
  · simp only [Value.slice.injEq, Option.some.injEq, Addr.mk.injEq, and_true, true_and] at hv
    obtain ⟨rfl, _⟩ := hv
    exact fun j => frozen_of_row w _ j _ _ hb
theorem own_cap {w : World} {base g cap n : Nat} {xs : List Value} (h : w.ownsRow base 54 3 (.slice (some ⟨g, 0, none⟩) n cap) n xs) : n ≤ cap ∧ cap ≤ maxLen := by
  rcases h.2 with ⟨h0, _⟩ | ⟨g', cap', cur, hv, _, hb, h1, h2, _⟩
  · cases h0
  · simp only [Value.slice.injEq, Option.some.injEq, Addr.mk.injEq, and_true, true_and] at hv
    obtain ⟨_, rfl⟩ := hv
    exact ⟨h1, h2⟩
theorem nd_set {w : World} {base g cap n : Nat} {l : List Nd} (hn : n = l.length) (h : w.ownsRow base 54 3 (.slice (some ⟨g, 0, none⟩) n cap) l.length (ndsCells l)) (i : Nat) (x : Nd) (hi : i < l.length) :
    (((w.setCell ⟨g, i * 3, none⟩ (.bool x.inner)).setCell ⟨g, i * 3 + 1, none⟩ (.string x.text)).setCell ⟨g, i * 3 + 2, none⟩ (.int .i64 x.depth)).ownsRow base 54 3 (.slice (some ⟨g, 0, none⟩) n cap) (l.set i x).length (ndsCells (l.set i x)) := by
  subst hn
  have h1 := (h.stored (i * 3) (.bool x.inner)).1
  have h2 := (h1.stored (i * 3 + 1) (.string x.text)).1
  have h3 := (h2.stored (i * 3 + 2) (.int .i64 x.depth)).1
  rw [ndsCells_set _ _ _ hi, List.length_set]
  exact h3
/-- r K LABEL. -/
def renN (l : List Nd) (k : Nat) (b : Bool) (t : ByteArray) : Option (List Nd) :=
  if k < 1 ∨ l.length ≤ k then none else if b = false ∧ k + 1 < subE l k then none else match l[k]? with | some x => some (l.set k ⟨b, t, x.depth⟩) | none => none

theorem nd_cells {w : World} {b : Nat} {i : Bool} {t : ByteArray} {d : Int} {T : TypeId} (h : w.heap[b]? = some (.cells #[.bool i, .string t, .int .i64 d] T (0, 0))) :
    w.cell? ⟨b, 0, none⟩ = some (.bool i) ∧ w.cell? ⟨b, 1, none⟩ = some (.string t) ∧ w.cell? ⟨b, 2, none⟩ = some (.int .i64 d) ∧ ∀ j, w.frozen? ⟨b, j, none⟩ = false := by
  refine ⟨?_, ?_, ?_, fun j => frozen_of_row w b j _ T h⟩ <;> (rw [cell_of_row w b _ _ T _ h]; rfl)
theorem set3 {w : World} {b : Nat} {c0 c1 c2 v : Value} {T : TypeId} (h : w.heap[b]? = some (.cells #[c0, c1, c2] T (0, 0))) : (w.setCell ⟨b, 2, none⟩ v).heap[b]? = some (.cells #[c0, c1, v] T (0, 0)) := by
  have := heap_setCell_same _ b 2 _ T v h
  rw [show (#[c0, c1, c2].setIfInBounds 2 v) = #[c0, c1, v] from by rw [← Array.toList_inj]; simp] at this
  exact this

set_option maxHeartbeats 6400000 in
theorem rename_any (l : List Nd) (k g cap : Nat) (b : Bool) (t : ByteArray) (w : World) (hl : l.length ≤ 1000000) (hk : k ≤ 1000000) (hd : Deep l) (hn : NA w g 0 l) :
    Calls Tryz.prog 52 #[.slice (some ⟨g, 0, none⟩) l.length cap, .int .i64 (k : Int), .agg #[.bool b, .string t, .int .i64 0]] w fun e w' => ListR w (renN l k b t) e w' := by
  by_cases hk1 : k < 1
  · have HR : Hid (renN l k b t = none) := by show _ = _; rw [renN, if_pos (.inl hk1)]
    go_enter Tryz.func52, Tryz.ntmps52
    go_wp2_with fail
    go_ret2
    rw [unhide HR]
    exact ⟨(Below.refl _ _).alloc (Nat.le_refl _) _, rfl⟩
  by_cases hkl : l.length ≤ k
  · have HR : Hid (renN l k b t = none) := by show _ = _; rw [renN, if_pos (.inr hkl)]
    go_enter Tryz.func52, Tryz.ntmps52
    go_wp2_with fail
    go_ret2
    rw [unhide HR]
    exact ⟨(Below.refl _ _).alloc (Nat.le_refl _) _, rfl⟩
  have hkl' : k < l.length := by omega
  have hsub := subE_le hkl'
  obtain ⟨x, hx⟩ : ∃ x, l[k]? = some x := ⟨_, List.getElem?_eq_getElem hkl'⟩
  have HX := hide hx
  have HN := hide hn
  have hgl := hn.lt
  have HD := hide hd
  have HLW : Hid (∀ wx cap', NA wx g 0 l → Calls Tryz.prog 72 #[.slice (some ⟨g, 0, none⟩) l.length cap', .int .i64 0] wx fun e w' => Below wx.heap.size wx w' ∧ ∃ v, e = .returned v ∧ w'.ownsRow wx.heap.size 54 3 v l.length (ndsCells l)) := fun wx cap' hx => by
    have := lowered_any l 0 g 0 cap' wx hl (by omega) (unhide HD) hx
    rw [map_sh0] at this
    exact this
  have HRN : Hid (¬ (b = false ∧ k + 1 < subE l k) → renN l k b t = some (l.set k ⟨b, t, x.depth⟩)) := fun h => by rw [renN, if_neg (by omega), if_neg h, hx]
  -- what follows once the label's depth is set
  have HEND : Hid (∀ (w1 w2 : World) (vm : Value), Below w.heap.size w w1 → w.heap.size < w1.heap.size → Below w1.heap.size w1 w2 → w1.heap[w.heap.size]? = some (.cells #[.bool b, .string t, .int .i64 x.depth] 54 (0, 0)) → w2.ownsRow w1.heap.size 54 3 vm l.length (ndsCells l) →
      ∃ (g2 cap2 : Nat) (y : Nd), vm = .slice (some ⟨g2, 0, none⟩) l.length cap2 ∧ (w2.cell? ⟨w.heap.size, 0, none⟩ = some (.bool b) ∧ w2.cell? ⟨w.heap.size, 1, none⟩ = some (.string t) ∧ w2.cell? ⟨w.heap.size, 2, none⟩ = some (.int .i64 x.depth) ∧ ∀ j, w2.frozen? ⟨w.heap.size, j, none⟩ = false) ∧ (w2.cell? ⟨g2, k * 3, none⟩ = some (.bool y.inner) ∧ w2.cell? ⟨g2, k * 3 + 1, none⟩ = some (.string y.text) ∧ w2.cell? ⟨g2, k * 3 + 2, none⟩ = some (.int .i64 y.depth)) ∧ (∀ j, w2.frozen? ⟨g2, j, none⟩ = false) ∧ w.heap.size < g2 ∧
      ListR w (some (l.set k ⟨b, t, x.depth⟩)) (.returned (.tuple #[vm, .bool true])) (((w2.setCell ⟨g2, k * 3, none⟩ (.bool b)).setCell ⟨g2, k * 3 + 1, none⟩ (.string t)).setCell ⟨g2, k * 3 + 2, none⟩ (.int .i64 x.depth))) := by
    intro w1 w2 vm hB1 hlt hB2 hbk hown
    rcases row_form hown with ⟨_, h0⟩ | ⟨g2, cap2, rfl, hg2⟩
    · omega
    have hge := (hown.lt g2 rfl).1
    have hna := NA.of_own hown hg2 rfl
    refine ⟨g2, cap2, x, rfl, nd_cells ((hB2.block _ hlt).trans hbk), hna.cell0 (unhide HX), own_frz hown, by omega, ?_, _, rfl, ?_⟩
    · have hb : Below w.heap.size w w2 := hB1.trans (hB2.mono hB1.size)
      exact below_set (below_set (below_set hb (by omega) _) (by omega) _) (by omega) _
    · exact ownsRow_base (nd_set rfl hown k ⟨b, t, x.depth⟩ hkl') (by omega)
  cases b with
  | true =>
    have HR := hide (unhide HRN (fun h => by cases h.1))
    obtain ⟨_, _, x2⟩ := hn.cell0 hx
    have HNX : Hid (∀ o, NA (w.alloc o) g 0 l) := fun o => (unhide HN).heap (heap_alloc_old _ _ hgl)
    clear hx hn hd HRN
    go_enter Tryz.func52, Tryz.ntmps52
    go_wp2_with fail
    refine (unhide HLW _ _ (unhide HNX _)).mono ?_
    rintro e w2 ⟨hB2, vm, rfl, hown⟩
    obtain ⟨g2, cap2, y, rfl, ⟨q0, q1, q2, q3⟩, ⟨y0, y1, y2⟩, hfz, hg2, hfin⟩ := unhide HEND _ w2 vm ((Below.refl w.heap.size w).alloc (Nat.le_refl _) _) (by simp) hB2 (heap_alloc_new _ _) hown
    have HFIN := hide hfin
    clear hB2 hown hfin
    go_wp2_with fail
    go_ret2
    rw [unhide HR]
    exact unhide HFIN
  | false =>
    have HSU : Hid (∀ wx, NA wx g 0 l → Calls Tryz.prog 66 #[.slice (some ⟨g, 0, none⟩) l.length cap, .int .i64 (k : Int)] wx fun e w' => e = .returned (.int .i64 (subE l k : Int)) ∧ Below wx.heap.size wx w') := fun wx h => subtreeEnd_any l k g cap wx hl hkl' h
    have HNX : Hid (∀ o, NA (w.alloc o) g 0 l) := fun o => (unhide HN).heap (heap_alloc_old _ _ hgl)
    have HRZ : Hid (k + 1 < subE l k → renN l k false t = none) := fun h => by rw [renN, if_neg (by omega), if_pos ⟨rfl, h⟩]
    clear hx hn hd
    go_enter Tryz.func52, Tryz.ntmps52
    go_wp2_with fail
    refine (unhide HSU _ (unhide HNX _)).mono ?_
    rintro e w1 ⟨rfl, hB1⟩
    have hblk : w1.heap[w.heap.size]? = some (.cells #[.bool false, .string t, .int .i64 0] 54 (0, 0)) := (hB1.block _ (by simp)).trans (heap_alloc_new _ _)
    have hlt1 : w.heap.size < w1.heap.size := by have := hB1.size; simp at this; omega
    have HB1 : Hid (Below w.heap.size w w1) := ((Below.refl w.heap.size w).alloc (Nat.le_refl _) _).trans (hB1.mono (by simp))
    have hna1 := (unhide HN).below (unhide HB1) hgl
    obtain ⟨_, _, x2⟩ := hna1.cell0 (unhide HX)
    obtain ⟨p0, p1, p2, p3⟩ := nd_cells hblk
    have HBK := hide hblk
    have HN1 := hide hna1
    clear hB1 hblk hna1
    by_cases hz : k + 1 < subE l k
    · have HR := hide (unhide HRZ hz)
      clear HRN HRZ
      generalize subE l k = z at *
      go_wp2_with fail
      go_ret2
      rw [unhide HR]
      exact ⟨unhide HB1, rfl⟩
    · have HR := hide (unhide HRN (fun h => hz h.2))
      clear HRN HRZ
      have hne : g ≠ w.heap.size := by omega
      have HN2 : Hid (NA (w1.setCell ⟨w.heap.size, 2, none⟩ (.int .i64 x.depth)) g 0 l) := (unhide HN1).heap (heap_setCell_other _ _ _ _ hne)
      have HBK2 := hide (set3 (v := .int .i64 x.depth) (unhide HBK))
      have HB2 := hide (below_set (j := 2) (unhide HB1) (Nat.le_refl w.heap.size) (.int .i64 x.depth))
      have hlt2 : w.heap.size < (w1.setCell ⟨w.heap.size, 2, none⟩ (.int .i64 x.depth)).heap.size := by simp; omega
      have HLT2 := hide hlt2
      clear hlt2
      generalize subE l k = z at *
      go_wp2_with fail
      refine (unhide HLW _ _ (unhide HN2)).mono ?_
      rintro e w2 ⟨hB2, vm, rfl, hown⟩
      obtain ⟨g2, cap2, y, rfl, ⟨q0, q1, q2, q3⟩, ⟨y0, y1, y2⟩, hfz, hg2, hfin⟩ := unhide HEND _ w2 vm (unhide HB2) (unhide HLT2) hB2 (unhide HBK2) hown
      have HFIN := hide hfin
      clear hB2 hown hfin
      go_wp2_with fail
      go_ret2
      rw [unhide HR]
      exact unhide HFIN

end Go.Proofs.YtdaneedflpfeaabGreatDoor
