import Derived.Test.YtdaneedflpfeaaaGreatDoorRefQ4
import Derived.Test.YtdaneedflpfeaaaGreatDoorPatG
import Derived.Deep.RegionLaw
namespace Go.Proofs.YtdaneedflpfeaaaGreatDoor
set_option maxRecDepth 100000
open Go.RowKit

set_option maxHeartbeats 3200000 in
theorem inserted_neg (v : Value) (n kI mI : Int) (b : Bool) (t : ByteArray) (w : World) (h : kI < 0 ∨ (0 ≤ kI ∧ mI < 0)) :
    Calls Tryz.prog 46 #[v, .int .i64 n, .int .i64 kI, .int .i64 mI, .agg #[.int .i64 0, .bool b, .string t]] w fun e w' => e = .returned (.tuple #[.slice none 0 0, .bool false]) ∧ Below w.heap.size w w' := by
  rcases h with h | ⟨h0, h⟩
  · go_enter Tryz.func46, Tryz.ntmps46
    go_wp2_with fail
    go_ret2
    exact ⟨rfl, (Below.refl _ _).alloc (Nat.le_refl _) _⟩
  · go_enter Tryz.func46, Tryz.ntmps46
    go_wp2_with fail
    go_ret2
    exact ⟨rfl, (Below.refl _ _).alloc (Nat.le_refl _) _⟩
theorem insR_nil (k n : Nat) (b : Bool) (t : ByteArray) : insR [] 0 k n b t = if k = 0 ∧ n = 0 then some [⟨0, b, t⟩] else none := by
  simp only [insR, parR]
  cases k with
  | zero =>
    cases n with
    | zero => simp [pastU]
    | succ n => simp [pastU]
  | succ k =>
    simp [pastU]

set_option maxHeartbeats 6400000 in
theorem inserted_nil (k n : Nat) (b : Bool) (t : ByteArray) (w : World) (hk : k ≤ 1000000) (hn : n ≤ 1000000) :
    Calls Tryz.prog 46 #[.slice none 0 0, .int .i64 (-1), .int .i64 (k : Int), .int .i64 (n : Int), .agg #[.int .i64 0, .bool (!b), .string t]] w fun e w' => RowsR w (insR [] 0 k n b t) e w' := by
  obtain ⟨i0, hi0, hz0, hz1, hz2⟩ := info_parts Tryz.infoRow
  by_cases hk0 : 0 < k
  · have HR : Hid (insR [] 0 k n b t = none) := by show _ = _; rw [insR_nil, if_neg (by omega)]
    cases b with
    | true =>
      go_enter Tryz.func46, Tryz.ntmps46
      go_wp2_with fail
      go_loopw [2, 10, 11, 13] (fun v2 _ _ v13 wr => v2 = .int .i64 (k : Int) ∧ v13 = .int .i64 0 ∧ Below w.heap.size w wr) (fun v2 _ _ _ _ => (intOf v2).toNat)
      case atStart => exact ⟨rfl, rfl, (Below.refl _ _).alloc (Nat.le_refl _) _⟩
      case round =>
        obtain ⟨rfl, rfl, hB⟩ := hrel
        go_wp2_with fail
        go_ret2
        rw [unhide HR]
        exact ⟨hB, rfl⟩
    | false =>
      by_cases hn0 : 0 < n
      · go_enter Tryz.func46, Tryz.ntmps46
        go_wp2_with fail
        go_ret2
        rw [unhide HR]
        exact ⟨(Below.refl _ _).alloc (Nat.le_refl _) _, rfl⟩
      go_enter Tryz.func46, Tryz.ntmps46
      go_wp2_with fail
      go_loopw [2, 10, 11, 13] (fun v2 _ _ v13 wr => v2 = .int .i64 (k : Int) ∧ v13 = .int .i64 0 ∧ Below w.heap.size w wr) (fun v2 _ _ _ _ => (intOf v2).toNat)
      case atStart => exact ⟨rfl, rfl, (Below.refl _ _).alloc (Nat.le_refl _) _⟩
      case round =>
        obtain ⟨rfl, rfl, hB⟩ := hrel
        go_wp2_with fail
        go_ret2
        rw [unhide HR]
        exact ⟨hB, rfl⟩
  have hk00 : k = 0 := by omega
  subst hk00
  by_cases hn0 : 0 < n
  · have HR : Hid (insR [] 0 0 n b t = none) := by show _ = _; rw [insR_nil, if_neg (by omega)]
    cases b with
    | false =>
      go_enter Tryz.func46, Tryz.ntmps46
      go_wp2_with fail
      go_ret2
      rw [unhide HR]
      exact ⟨(Below.refl _ _).alloc (Nat.le_refl _) _, rfl⟩
    | true =>
      go_enter Tryz.func46, Tryz.ntmps46
      go_wp2_with fail
      go_loopw [2, 10, 11, 13] (fun v2 _ _ v13 wr => v2 = .int .i64 0 ∧ v13 = .int .i64 0 ∧ Below w.heap.size w wr) (fun v2 _ _ _ _ => (intOf v2).toNat)
      case atStart => exact ⟨rfl, rfl, (Below.refl _ _).alloc (Nat.le_refl _) _⟩
      case round =>
        obtain ⟨rfl, rfl, hB⟩ := hrel
        have HB := hide hB
        clear hB
        go_wp2_with fail
        go_loopw [3, 10, 11, 14] (fun v3 _ _ v14 wr => v3 = .int .i64 (n : Int) ∧ v14 = .int .i64 0 ∧ Below w.heap.size w wr) (fun v3 _ _ _ _ => (intOf v3).toNat)
        case atStart => exact ⟨rfl, rfl, unhide HB⟩
        case round =>
          obtain ⟨rfl, rfl, hB⟩ := hrel
          go_wp2_with fail
          go_ret2
          rw [unhide HR]
          exact ⟨hB, rfl⟩
  have hn00 : n = 0 := by omega
  subst hn00
  have HR : Hid (insR [] 0 0 0 b t = some [⟨0, b, t⟩]) := by show _ = _; rw [insR_nil, if_pos ⟨rfl, rfl⟩]
  cases b with
  | true =>
    go_enter Tryz.func46, Tryz.ntmps46
    go_wp2_with fail
    go_loopw [2, 10, 11, 13] (fun v2 _ _ v13 wr => v2 = .int .i64 0 ∧ v13 = .int .i64 0 ∧ w.heap.size < wr.heap.size ∧ Hid (wr.heap[w.heap.size]? = some (.cells #[.int .i64 0, .bool false, .string t] 51 (0, 0))) ∧ Below w.heap.size w wr) (fun v2 _ _ _ _ => (intOf v2).toNat)
    case atStart => exact ⟨rfl, rfl, by simp, heap_alloc_new _ _, (Below.refl _ _).alloc (Nat.le_refl _) _⟩
    case round =>
      obtain ⟨rfl, rfl, hlt, HK, hB⟩ := hrel
      have HB := hide hB
      clear hB
      go_wp2_with fail
      go_loopw [3, 10, 11, 14] (fun v3 _ _ v14 wr => v3 = .int .i64 0 ∧ v14 = .int .i64 0 ∧ w.heap.size < wr.heap.size ∧ Hid (wr.heap[w.heap.size]? = some (.cells #[.int .i64 0, .bool false, .string t] 51 (0, 0))) ∧ Below w.heap.size w wr) (fun v3 _ _ _ _ => (intOf v3).toNat)
      case atStart => exact ⟨rfl, rfl, hlt, HK, unhide HB⟩
      case round =>
        clear HB HK hlt
        obtain ⟨rfl, rfl, hlt, HK, hB⟩ := hrel
        have HB := hide hB
        clear hB
        obtain ⟨c0, c1, c2, c3⟩ := rw_cells3 (unhide HK)
        go_wp2_with (first
          | (at_builtin; refine append_rws rfl _ _ rfl (w.heap.size + 1) (.slice none 0 0) (.slice none 0 0) [] [] rfl rfl (World.ownsRow_nil _ _ _ _) (.inl ⟨rfl, rfl⟩) (by omega) (by simp) ?_)
          | fail)
        intro A v5 w5 hA ho5 hg5
        have hA0 : A.length = 0 := by rw [hA]; rfl
        have HB5 : Hid (Below w.heap.size w w5) := below_appR (unhide HB) (World.ownsRow_nil _ w.heap.size _ _) (Nat.le_refl _) hg5
        have HK5 := hide ((hg5.block _ hlt (by simp [Value.ownBlock])).trans (unhide HK))
        have hsz5 := hg5.size
        have HO5 : Hid (w5.ownsRow (w.heap.size + 1) 51 3 v5 0 (rwsCells [])) := by
          have := ho5
          rw [hA] at this
          exact this
        clear hA ho5 hg5 c0 c1 c2 c3 hA0
        obtain ⟨c0, c1, c2, c3⟩ := rw_cells3 (unhide HK5)
        have hlt5 : w.heap.size < w5.heap.size := by omega
        go_wp2_with (first
          | (at_builtin; refine wpList_append_lies _ rfl (.tmp 95) (.tmp 97) 25 rfl (w.heap.size + 1) 51 i0 (.agg #[.int .i64 0, .bool false, .string ⟨#[]⟩]) 3 32 Tryz.underlying25 hi0 hz0 hz1 hz2 rfl (by decide) _ 0 (rwsCells []) rfl ((unhide HO5).alloc _) ⟨w5.heap.size, 0, none⟩ 1 1 _ rfl rfl (rw_news _ _ _ (heap_alloc_new _ _)) (rw_one _ _ _) (by decide) (by unfold maxLen; omega) (by omega) (by simp; omega) _ rfl ?_)
          | fail)
        intro g6 cap6 w6 ho6 hg6 _ hlt6
        have HB6 : Hid (Below w.heap.size w w6) := below_appR ((unhide HB5).alloc (by omega) _) ((unhide HO5).alloc _) (by omega) hg6
        have HO6 : Hid (w6.ownsRow (w.heap.size + 1) 51 3 (.slice (some ⟨g6, 0, none⟩) 1 cap6) 1 (rwsCells [(⟨0, true, t⟩ : Rw)])) := ho6
        have hsz6 := hg6.size
        clear ho6 hg6 HO5 HB5 HK5 c0 c1 c2 c3
        go_wp2_with fail
        go_loopw [15, 16, 17] (fun v i _ wq => i = .int .i64 0 ∧ wq.ownsRow (w.heap.size + 1) 51 3 v 1 (rwsCells [(⟨0, true, t⟩ : Rw)]) ∧ Below w.heap.size w wq ∧ w.heap.size < wq.heap.size) (fun _ i _ _ => (intOf i).toNat)
        case atStart => exact ⟨rfl, unhide HO6, unhide HB6, by simp at hsz6; omega⟩
        case round =>
          obtain ⟨rfl, ho7, hB7, hlt7⟩ := hrel
          have HO7 := hide ho7
          have HB7 := hide hB7
          clear ho7 hB7
          go_wp2_with (first
            | (at_builtin; refine append_rws rfl _ _ rfl (w.heap.size + 1) _ (.slice none 0 0) [(⟨0, true, t⟩ : Rw)] [] rfl rfl (unhide HO7) (.inl ⟨rfl, rfl⟩) (by omega) (by simp) ?_)
            | fail)
          intro Fi v9 w9 hF ho9 hg9
          have HB9 := hide (below_appR (unhide HB7) (unhide HO7) (by omega) hg9)
          have hF2 : Fi = [(⟨0, true, t⟩ : Rw)] := by first | exact hF | (rw [hF]; rfl)
          subst hF2
          rcases row_form ho9 with ⟨_, h0⟩ | ⟨g9, cap9, rfl, hg9'⟩
          · simp at h0
          have HRA := hide (RA.of_own ho9 hg9' rfl)
          have HCP := hide (own_capR ho9)
          clear ho9 hg9 hF
          go_wp2_with fail
          go_ret2
          rw [unhide HR]
          exact ⟨unhide HB9, g9, cap9, rfl, unhide HRA, (unhide HCP).1, (unhide HCP).2⟩
  | false =>
    go_enter Tryz.func46, Tryz.ntmps46
    go_wp2_with fail
    go_loopw [2, 10, 11, 13] (fun v2 _ _ v13 wr => v2 = .int .i64 0 ∧ v13 = .int .i64 0 ∧ w.heap.size < wr.heap.size ∧ Hid (wr.heap[w.heap.size]? = some (.cells #[.int .i64 0, .bool true, .string t] 51 (0, 0))) ∧ Below w.heap.size w wr) (fun v2 _ _ _ _ => (intOf v2).toNat)
    case atStart => exact ⟨rfl, rfl, by simp, heap_alloc_new _ _, (Below.refl _ _).alloc (Nat.le_refl _) _⟩
    case round =>
      obtain ⟨rfl, rfl, hlt, HK, hB⟩ := hrel
      have HB := hide hB
      clear hB
      go_wp2_with fail
      go_loopw [3, 10, 11, 14] (fun v3 _ _ v14 wr => v3 = .int .i64 0 ∧ v14 = .int .i64 0 ∧ w.heap.size < wr.heap.size ∧ Hid (wr.heap[w.heap.size]? = some (.cells #[.int .i64 0, .bool true, .string t] 51 (0, 0))) ∧ Below w.heap.size w wr) (fun v3 _ _ _ _ => (intOf v3).toNat)
      case atStart => exact ⟨rfl, rfl, hlt, HK, unhide HB⟩
      case round =>
        clear HB HK hlt
        obtain ⟨rfl, rfl, hlt, HK, hB⟩ := hrel
        have HB := hide hB
        clear hB
        obtain ⟨c0, c1, c2, c3⟩ := rw_cells3 (unhide HK)
        go_wp2_with (first
          | (at_builtin; refine append_rws rfl _ _ rfl (w.heap.size + 1) (.slice none 0 0) (.slice none 0 0) [] [] rfl rfl (World.ownsRow_nil _ _ _ _) (.inl ⟨rfl, rfl⟩) (by omega) (by simp) ?_)
          | fail)
        intro A v5 w5 hA ho5 hg5
        have hA0 : A.length = 0 := by rw [hA]; rfl
        have HB5 : Hid (Below w.heap.size w w5) := below_appR (unhide HB) (World.ownsRow_nil _ w.heap.size _ _) (Nat.le_refl _) hg5
        have HK5 := hide ((hg5.block _ hlt (by simp [Value.ownBlock])).trans (unhide HK))
        have hsz5 := hg5.size
        have HO5 : Hid (w5.ownsRow (w.heap.size + 1) 51 3 v5 0 (rwsCells [])) := by
          have := ho5
          rw [hA] at this
          exact this
        clear hA ho5 hg5 c0 c1 c2 c3 hA0
        obtain ⟨c0, c1, c2, c3⟩ := rw_cells3 (unhide HK5)
        have hlt5 : w.heap.size < w5.heap.size := by omega
        go_wp2_with (first
          | (at_builtin; refine wpList_append_lies _ rfl (.tmp 95) (.tmp 97) 25 rfl (w.heap.size + 1) 51 i0 (.agg #[.int .i64 0, .bool false, .string ⟨#[]⟩]) 3 32 Tryz.underlying25 hi0 hz0 hz1 hz2 rfl (by decide) _ 0 (rwsCells []) rfl ((unhide HO5).alloc _) ⟨w5.heap.size, 0, none⟩ 1 1 _ rfl rfl (rw_news _ _ _ (heap_alloc_new _ _)) (rw_one _ _ _) (by decide) (by unfold maxLen; omega) (by omega) (by simp; omega) _ rfl ?_)
          | fail)
        intro g6 cap6 w6 ho6 hg6 _ hlt6
        have HB6 : Hid (Below w.heap.size w w6) := below_appR ((unhide HB5).alloc (by omega) _) ((unhide HO5).alloc _) (by omega) hg6
        have HO6 : Hid (w6.ownsRow (w.heap.size + 1) 51 3 (.slice (some ⟨g6, 0, none⟩) 1 cap6) 1 (rwsCells [(⟨0, false, t⟩ : Rw)])) := ho6
        have hsz6 := hg6.size
        clear ho6 hg6 HO5 HB5 HK5 c0 c1 c2 c3
        go_wp2_with fail
        go_loopw [15, 16, 17] (fun v i _ wq => i = .int .i64 0 ∧ wq.ownsRow (w.heap.size + 1) 51 3 v 1 (rwsCells [(⟨0, false, t⟩ : Rw)]) ∧ Below w.heap.size w wq ∧ w.heap.size < wq.heap.size) (fun _ i _ _ => (intOf i).toNat)
        case atStart => exact ⟨rfl, unhide HO6, unhide HB6, by simp at hsz6; omega⟩
        case round =>
          obtain ⟨rfl, ho7, hB7, hlt7⟩ := hrel
          have HO7 := hide ho7
          have HB7 := hide hB7
          clear ho7 hB7
          go_wp2_with (first
            | (at_builtin; refine append_rws rfl _ _ rfl (w.heap.size + 1) _ (.slice none 0 0) [(⟨0, false, t⟩ : Rw)] [] rfl rfl (unhide HO7) (.inl ⟨rfl, rfl⟩) (by omega) (by simp) ?_)
            | fail)
          intro Fi v9 w9 hF ho9 hg9
          have HB9 := hide (below_appR (unhide HB7) (unhide HO7) (by omega) hg9)
          have hF2 : Fi = [(⟨0, false, t⟩ : Rw)] := by first | exact hF | (rw [hF]; rfl)
          subst hF2
          rcases row_form ho9 with ⟨_, h0⟩ | ⟨g9, cap9, rfl, hg9'⟩
          · simp at h0
          have HRA := hide (RA.of_own ho9 hg9' rfl)
          have HCP := hide (own_capR ho9)
          clear ho9 hg9 hF
          go_wp2_with fail
          go_ret2
          rw [unhide HR]
          exact ⟨unhide HB9, g9, cap9, rfl, unhide HRA, (unhide HCP).1, (unhide HCP).2⟩

theorem rws_deep (l : List Rw) (i : Nat) (x : Rw) (d : Nat) (hx : l[i]? = some x) : rwsCells (l.set i ⟨d, x.inner, x.text⟩) = (rwsCells l).set (i * 3) (.int .i64 (d : Int)) := by
  induction l generalizing i with
  | nil => simp at hx
  | cons y l ih =>
    cases i with
    | zero =>
      simp at hx
      subst hx
      simp [rwsCells, rwCells]
    | succ i =>
      have := ih i (by simpa using hx)
      have e : (i + 1) * 3 = 3 + i * 3 := by omega
      rw [List.set_cons_succ, show rwsCells (y :: l.set i ⟨d, x.inner, x.text⟩) = rwCells y ++ rwsCells (l.set i ⟨d, x.inner, x.text⟩) from by simp [rwsCells], this, show rwsCells (y :: l) = rwCells y ++ rwsCells l from by simp [rwsCells], e, List.set_append_right _ _ (by simp [rwCells])]
      simp [rwCells]
theorem rws_set (l : List Rw) (i : Nat) (x : Rw) (h : i < l.length) : rwsCells (l.set i x) = (((rwsCells l).set (i * 3) (.int .i64 (x.deep : Int))).set (i * 3 + 1) (.bool (!x.inner))).set (i * 3 + 2) (.string x.text) := by
  induction l generalizing i with
  | nil => simp at h
  | cons y l ih =>
    cases i with
    | zero => simp [rwsCells, rwCells]
    | succ i =>
      have := ih i (by simpa using h)
      rw [List.set_cons_succ, show rwsCells (y :: l.set i x) = rwCells y ++ rwsCells (l.set i x) from by simp [rwsCells], this, show rwsCells (y :: l) = rwCells y ++ rwsCells l from by simp [rwsCells], show (i + 1) * 3 = 3 + i * 3 by omega, show 3 + i * 3 + 1 = 3 + (i * 3 + 1) by omega, show 3 + i * 3 + 2 = 3 + (i * 3 + 2) by omega, List.set_append_right _ _ (by simp [rwCells]), List.set_append_right _ _ (by simp [rwCells]), List.set_append_right _ _ (by simp [rwCells])]
      simp [rwCells]

end Go.Proofs.YtdaneedflpfeaaaGreatDoor

namespace Go.Proofs.YtdaneedflpfeaaaGreatDoor
set_option maxRecDepth 100000
open Go.RowKit

def Rw.down (r : Rw) : Rw := { r with deep := r.deep - 1 }
def stepR (l : List Rw) : Stp → Option (List Rw)
  | .ren k b t => if k < 1 ∨ l.length < k then none else if b = false ∧ 0 < undR l (k - 1) then none else match l[k - 1]? with | some x => some (l.set (k - 1) ⟨x.deep, b, t⟩) | none => none
  | .del k => if k < 1 ∨ l.length < k then none else some (l.take (k - 1) ++ ((l.drop k).take (undR l (k - 1))).map Rw.down ++ l.drop (k + undR l (k - 1)))
  | .ins p i n b t => if l.length < p then none else insR l p i n b t
def stepO (l : List Rw) (o : Option Stp) : Option (List Rw) := o.bind (stepR l)
theorem cntR_pos {x : List UInt8} {k : Nat} (h : numV x = some k) : cntR (numV x) = (k : Int) := by rw [h]; rfl
theorem cntR_neg {x : List UInt8} (h : numV x = none) : cntR (numV x) = -1 := by rw [h]; rfl
theorem cntR_bd (x : List UInt8) : -1 ≤ cntR (numV x) ∧ cntR (numV x) ≤ 999999 := by
  cases h : numV x with
  | none => decide
  | some k => have := numV_bd h; show -1 ≤ (k : Int) ∧ (k : Int) ≤ 999999; omega
/-- Rows that have been lifted by one, up to a place. -/
def lifts (l : List Rw) (n j : Nat) : List Rw := l.take (n + 1) ++ ((l.drop (n + 1)).take j).map Rw.down ++ l.drop (n + 1 + j)
theorem lifts_len (l : List Rw) (n j : Nat) : (lifts l n j).length = l.length := by
  simp only [lifts, List.length_append, List.length_take, List.length_map, List.length_drop]; omega
theorem lifts_zero (l : List Rw) (n : Nat) : lifts l n 0 = l := by simp [lifts]
theorem lifts_get {l : List Rw} {n j : Nat} (h : n + 1 + j < l.length) : (lifts l n j)[n + 1 + j]? = l[n + 1 + j]? := by
  have e : (l.take (n + 1) ++ ((l.drop (n + 1)).take j).map Rw.down).length = n + 1 + j := by simp only [List.length_append, List.length_take, List.length_map, List.length_drop]; omega
  rw [lifts, List.getElem?_append_right (by omega), e, Nat.sub_self, List.getElem?_drop, Nat.add_zero]
theorem lifts_set {l : List Rw} {n j : Nat} {x : Rw} (hx : l[n + 1 + j]? = some x) : (lifts l n j).set (n + 1 + j) x.down = lifts l n (j + 1) := by
  have h : n + 1 + j < l.length := by
    rcases Nat.lt_or_ge (n + 1 + j) l.length with q | q
    · exact q
    · rw [List.getElem?_eq_none q] at hx; cases hx
  have e : (l.take (n + 1) ++ ((l.drop (n + 1)).take j).map Rw.down).length = n + 1 + j := by simp only [List.length_append, List.length_take, List.length_map, List.length_drop]; omega
  rw [lifts, List.set_append_right _ _ (by omega), e, Nat.sub_self, List.drop_eq_getElem_cons h, List.set_cons_zero, lifts]
  rw [List.getElem?_eq_getElem h] at hx
  have hx' := Option.some.inj hx
  have e2 : (l.drop (n + 1)).take (j + 1) = (l.drop (n + 1)).take j ++ [x] := by
    rw [List.take_succ_eq_append_getElem (by rw [List.length_drop]; omega)]
    congr 2
    rw [List.getElem_drop]; exact hx'
  rw [e2, List.map_append, show n + 1 + (j + 1) = n + 1 + j + 1 by omega]
  simp
theorem goU_deep (l : List Rw) (d e : Nat) : ∀ i x, e ≤ i → i < goU l d e → l[i]? = some x → d < x.deep := by
  induction e using goU.induct l d with
  | case1 e h1 h2 ih =>
    intro i x hi hg hx
    rw [goU, dif_pos h1, if_pos h2] at hg
    rcases Nat.lt_or_ge e i with q | q
    · exact ih i x q hg hx
    · have : i = e := by omega
      subst this
      rw [List.getElem?_eq_getElem h1] at hx
      rw [← Option.some.inj hx]; exact h2
  | case2 e h1 h2 => intro i x hi hg hx; rw [goU, dif_pos h1, if_neg h2] at hg; omega
  | case3 e h1 => intro i x hi hg hx; rw [goU, dif_neg h1] at hg; omega
theorem undR_deep {l : List Rw} {q j : Nat} {x : Rw} (hq : q < l.length) (hj : j < undR l q) (hx : l[q + 1 + j]? = some x) : 1 ≤ x.deep := by
  unfold undR at hj
  rw [List.getElem?_eq_getElem hq] at hj
  simp only at hj
  have := goU_deep l (l[q]).deep (q + 1) (q + 1 + j) x (by omega) (by omega) hx
  omega
theorem RA.to_own {w : World} {base g cap n : Nat} {l : List Rw} (h : w.ownsRow base 51 3 (.slice (some ⟨g, 0, none⟩) n cap) n (rwsCells l)) : ∀ j, w.frozen? ⟨g, j, none⟩ = false := by
  rcases h.2 with ⟨h0, _⟩ | ⟨g', cap', cur, hv, _, hb, _⟩
  · cases h0
  · simp only [Value.slice.injEq, Option.some.injEq, Addr.mk.injEq, and_true, true_and] at hv
    obtain ⟨rfl, _⟩ := hv
    exact fun j => frozen_of_row w _ j _ _ hb

end Go.Proofs.YtdaneedflpfeaaaGreatDoor
