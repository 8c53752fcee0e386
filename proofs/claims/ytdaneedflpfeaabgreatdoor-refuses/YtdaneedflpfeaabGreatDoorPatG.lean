import Derived.Test.YtdaneedflpfeaabGreatDoorPatF
namespace Go.Proofs.YtdaneedflpfeaabGreatDoor
set_option maxRecDepth 100000
open Go.RowKit

theorem st_cells {w : World} {b : Nat} {kd t : ByteArray} {x y z : Int} {bb : Bool} {T : TypeId} (h : w.heap[b]? = some (.cells (stA kd x y z bb t) T (0, 0))) :
    w.cell? ⟨b, 0, none⟩ = some (.string kd) ∧ w.cell? ⟨b, 1, none⟩ = some (.int .i64 x) ∧ w.cell? ⟨b, 2, none⟩ = some (.int .i64 y) ∧ w.cell? ⟨b, 3, none⟩ = some (.int .i64 z) ∧ w.cell? ⟨b, 4, none⟩ = some (.bool bb) ∧ w.cell? ⟨b, 5, none⟩ = some (.string t) ∧ w.cell? ⟨b, 6, none⟩ = some (.int .i64 0) ∧ ∀ j, w.frozen? ⟨b, j, none⟩ = false := by
  refine ⟨?_, ?_, ?_, ?_, ?_, ?_, ?_, fun j => frozen_of_row w b j _ T h⟩ <;> (rw [cell_of_row w b _ _ T _ h]; rfl)
theorem arr7 (c0 c1 c2 c3 c4 c5 c6 v0 v1 v2 v3 v4 v5 v6 : Value) : (((((((#[c0, c1, c2, c3, c4, c5, c6].setIfInBounds 0 v0).setIfInBounds 1 v1).setIfInBounds 2 v2).setIfInBounds 3 v3).setIfInBounds 4 v4).setIfInBounds 5 v5).setIfInBounds 6 v6) = #[v0, v1, v2, v3, v4, v5, v6] := by
  rw [← Array.toList_inj]; simp
theorem set7 {w : World} {b : Nat} {c0 c1 c2 c3 c4 c5 c6 : Value} {T : TypeId} (v0 v1 v2 v3 v4 v5 v6 : Value) (h : w.heap[b]? = some (.cells #[c0, c1, c2, c3, c4, c5, c6] T (0, 0))) :
    (((((((w.setCell ⟨b, 0, none⟩ v0).setCell ⟨b, 1, none⟩ v1).setCell ⟨b, 2, none⟩ v2).setCell ⟨b, 3, none⟩ v3).setCell ⟨b, 4, none⟩ v4).setCell ⟨b, 5, none⟩ v5).setCell ⟨b, 6, none⟩ v6).heap[b]? = some (.cells #[v0, v1, v2, v3, v4, v5, v6] T (0, 0)) := by
  have h0 := heap_setCell_same _ b 0 _ T v0 h
  have h1 := heap_setCell_same _ b 1 _ T v1 h0
  have h2 := heap_setCell_same _ b 2 _ T v2 h1
  have h3 := heap_setCell_same _ b 3 _ T v3 h2
  have h4 := heap_setCell_same _ b 4 _ T v4 h3
  have h5 := heap_setCell_same _ b 5 _ T v5 h4
  have h6 := heap_setCell_same _ b 6 _ T v6 h5
  rw [arr7] at h6
  exact h6
theorem below_set {b j : Nat} {w0 w : World} (hb : Below w0.heap.size w0 w) (hBb : w0.heap.size ≤ b) (v : Value) : Below w0.heap.size w0 (w.setCell ⟨b, j, none⟩ v) := hb.grown (grown_set w b j v) hb.size (fun k hk => by cases hk; exact hBb)
theorem below_set7 {b : Nat} {w0 w : World} (hb : Below w0.heap.size w0 w) (hBb : w0.heap.size ≤ b) (v0 v1 v2 v3 v4 v5 v6 : Value) : Below w0.heap.size w0 (((((((w.setCell ⟨b, 0, none⟩ v0).setCell ⟨b, 1, none⟩ v1).setCell ⟨b, 2, none⟩ v2).setCell ⟨b, 3, none⟩ v3).setCell ⟨b, 4, none⟩ v4).setCell ⟨b, 5, none⟩ v5).setCell ⟨b, 6, none⟩ v6) :=
  below_set (below_set (below_set (below_set (below_set (below_set (below_set hb hBb _) hBb _) hBb _) hBb _) hBb _) hBb _) hBb _
theorem len2 {α : Type} {l : List α} (h : l.length = 2) : ∃ a b, l = [a, b] := by
  match l, h with
  | [a, b], _ => exact ⟨a, b, rfl⟩
theorem len3 {α : Type} {l : List α} (h : l.length = 3) : ∃ a b c, l = [a, b, c] := by
  match l, h with
  | [a, b, c], _ => exact ⟨a, b, c, rfl⟩
theorem len5 {α : Type} {l : List α} (h : l.length = 5) : ∃ a b c d e, l = [a, b, c, d, e] := by
  match l, h with
  | [a, b, c, d, e], _ => exact ⟨a, b, c, d, e, rfl⟩

/-- A step. -/
inductive Stp where
  | ren (k : Nat) (b : Bool) (t : ByteArray)
  | del (k : Nat)
  | ins (p i n : Nat) (b : Bool) (t : ByteArray)
def Stp.cells : Stp → Array Value
  | .ren k b t => stA ⟨#[114]⟩ k 0 0 b t
  | .del k => stA ⟨#[100]⟩ k 0 0 false ⟨#[]⟩
  | .ins p i n b t => stA ⟨#[105]⟩ p i n b t
/-- What a line tells. -/
def stepW : List (List UInt8) → Option Stp
  | [x, a, b] => if x = [114] then (match numV a, labV b with | some k, some l => some (.ren k l.1 (mk l.2)) | _, _ => none) else none
  | [x, a] => if x = [100] then (numV a).map .del else none
  | [x, a, b, c, d] => if x = [105] then (match numV a, numV b, numV c, labV d with | some p, some i, some n, some l => some (.ins p i n l.1 (mk l.2)) | _, _, _, _ => none) else none
  | _ => none
def StIs : Option Stp → Array Value → Bool → Prop
  | some st, cs, ok => ok = true ∧ cs = st.cells
  | none, _, ok => ok = false
theorem stIs_ren (a b : List UInt8) : StIs (stepW [[114], a, b]) (stA ⟨#[114]⟩ (numI a) 0 0 (labB (labV b)) (labT (labV b))) ((numV a).isSome && (labV b).isSome) := by
  simp only [stepW, if_true, numI]
  cases h1 : numV a with
  | none => exact rfl
  | some k => cases h2 : labV b with
    | none => exact rfl
    | some l => exact ⟨rfl, rfl⟩
theorem stIs_del (a : List UInt8) : StIs (stepW [[100], a]) (stA ⟨#[100]⟩ (numI a) 0 0 false ⟨#[]⟩) (numV a).isSome := by
  simp only [stepW, if_true, numI]
  cases h1 : numV a with
  | none => exact rfl
  | some k => exact ⟨rfl, rfl⟩
theorem stIs_ins (a b c d : List UInt8) : StIs (stepW [[105], a, b, c, d]) (stA ⟨#[105]⟩ (numI a) (numI b) (numI c) (labB (labV d)) (labT (labV d))) (((numV a).isSome && (numV b).isSome) && (numV c).isSome && (labV d).isSome) := by
  simp only [stepW, if_true, numI]
  cases h1 : numV a with
  | none => exact rfl
  | some k => cases h2 : numV b with
    | none => exact rfl
    | some k => cases h3 : numV c with
      | none => exact rfl
      | some k => cases h4 : labV d with
        | none => exact rfl
        | some l => exact ⟨rfl, rfl⟩
theorem mk_eq (x : List UInt8) (y : List UInt8) : ((mk x).toList == y) = decide (x = y) := by rw [mk_toList]; rw [Bool.eq_iff_iff]; simp
theorem mk_data2 (x : List UInt8) : (mk x).data.toList = x := rfl

set_option maxHeartbeats 3200000 in
theorem readStep_any (s : ByteArray) (w : World) (hs : s.size ≤ 1000000) :
    Calls Tryz.prog 29 #[.string s] w fun e w' => Below w.heap.size w w' ∧ ∃ kd x y z bb t ok, e = .returned (.tuple #[.agg (stA kd x y z bb t), .bool ok]) ∧ StIs (stepW (splitL 32 s.data.toList)) (stA kd x y z bb t) ok := by
  have HW := hide (fun wx => words_any s wx hs)
  have hsz := splitL_size 32 s.data.toList
  have hlen := splitL_len 32 s.data.toList
  have hss : s.data.toList.length = s.size := rfl
  rw [hss] at hsz hlen
  clear hss
  generalize splitL 32 s.data.toList = W at *
  go_enter Tryz.func29, Tryz.ntmps29
  go_wp2_with fail
  refine (unhide HW _).mono ?_
  rintro e w1 ⟨hB, v, rfl, hown⟩
  have HBK : Hid (w1.heap[w.heap.size]? = some (.cells (stA ⟨#[]⟩ 0 0 0 false ⟨#[]⟩) 68 (0, 0))) := (hB.block _ (by simp)).trans (heap_alloc_new _ _)
  have HB : Hid (Below w.heap.size w w1) := ((Below.refl w.heap.size w).alloc (Nat.le_refl _) _).trans (hB.mono (by simp))
  have hlt : w.heap.size < w1.heap.size := by have := hB.size; simp at this; omega
  clear hB HW
  rcases hown.2 with ⟨rfl, hm⟩ | ⟨g, cap, cur, rfl, hrest⟩
  · omega
  have HCELL : Hid (∀ i x, W[i]? = some x → w1.cell? ⟨g, i, none⟩ = some (.string (mk x))) := fun i x hx => by
    have hi : i < W.length := by
      rcases Nat.lt_or_ge i W.length with h | h
      · exact h
      · rw [List.getElem?_eq_none h] at hx; cases hx
    rw [hown.cellAt i (by omega)]
    simp [strsV, hx]
  clear hrest hown
  by_cases h3 : W.length = 3
  · obtain ⟨x0, x1, x2, hWW⟩ := len3 h3
    have c0 := unhide HCELL 0 x0 (by rw [hWW]; rfl)
    have c1 := unhide HCELL 1 x1 (by rw [hWW]; rfl)
    have c2 := unhide HCELL 2 x2 (by rw [hWW]; rfl)
    have z1 : (mk x1).size ≤ 1000000 := by have := hsz x1 (by rw [hWW]; simp); rw [mk_size]; omega
    have z2 : (mk x2).size ≤ 1000000 := by have := hsz x2 (by rw [hWW]; simp); rw [mk_size]; omega
    rw [h3]
    have HWW := hide hWW
    clear hsz hlen HCELL hWW h3
    by_cases hx : x0 = [114]
    · subst hx
      have he : ((mk [114]).toList == [114]) = true := by rw [mk_eq]; rfl
      have HR : Hid (∀ wx, Calls Tryz.prog 49 #[.string (mk x1), .string (mk x2)] wx fun e w' => e = .returned (.tuple #[.agg (stA ⟨#[114]⟩ (numI x1) 0 0 (labB (labV x2)) (labT (labV x2))), .bool ((numV x1).isSome && (labV x2).isSome)]) ∧ Below wx.heap.size wx w') := fun wx => readRename_any (mk x1) (mk x2) wx z1 z2
      have HST : Hid (StIs (stepW W) (stA ⟨#[114]⟩ (numI x1) 0 0 (labB (labV x2)) (labT (labV x2))) ((numV x1).isSome && (labV x2).isSome)) := by show StIs _ _ _; rw [unhide HWW]; exact stIs_ren x1 x2
      clear HWW
      generalize numI x1 = k at *
      generalize ((numV x1).isSome && (labV x2).isSome) = ok at *
      generalize labB (labV x2) = li at *
      generalize labT (labV x2) = lt at *
      generalize mk x1 = y1 at *
      generalize mk x2 = y2 at *
      generalize mk [114] = y0 at *
      go_wp2_with fail
      go_region_with (go_at_call 49; refine (unhide HR _).mono ?_; rintro e w2 ⟨rfl, hB2⟩; have hb2 : w2.heap[w.heap.size]? = some (.cells (stA ⟨#[]⟩ 0 0 0 false ⟨#[]⟩) 68 (0, 0)) := (hB2.block _ hlt).trans (unhide HBK); have HB2 : Hid (Below w.heap.size w w2) := (((unhide HB).drew).trans (hB2.mono (by show w.heap.size ≤ w1.heap.size; omega))); obtain ⟨e0, e1, e2, e3, e4, e5, e6, e7⟩ := st_cells hb2; have HK2 := hide hb2; clear hB2 hb2)
      all_goals go_wp2_with fail
      all_goals refine bodyPost_ret (results_row_tmp rfl _ _ w.heap.size _ (stA ⟨#[114]⟩ k 0 0 li lt) (0, 0) _ rfl (set7 _ _ _ _ _ _ _ (unhide HK2)) Tryz.underlying68 rfl Tryz.infoStep1) rfl ?_
      all_goals exact ⟨below_set7 (unhide HB2) (Nat.le_refl _) _ _ _ _ _ _ _, _, _, _, _, _, _, _, rfl, unhide HST⟩
    · have he : ((mk x0).toList == [114]) = false := by rw [mk_eq]; simp [hx]
      have HST : Hid (stepW W = none) := by show stepW _ = none; rw [unhide HWW]; simp [stepW, hx]
      clear HWW
      generalize mk x0 = y0 at *
      go_wp2_with (first
        | (refine wpList_store_row rfl 68 _ _ rfl w.heap.size (stA ⟨#[]⟩ 0 0 0 false ⟨#[]⟩) rfl rfl 68 _ (unhide HBK) Tryz.infoStep1 rfl (st_all1 _ _ _ _ _ _) ?_)
        | fail)
      refine bodyPost_ret (results_row_tmp rfl _ _ w.heap.size _ (stA ⟨#[]⟩ 0 0 0 false ⟨#[]⟩) (0, 0) _ rfl (setRow_heap _ _ _ _ _ _ (unhide HBK)) Tryz.underlying68 rfl Tryz.infoStep1) rfl ?_
      exact ⟨below_setRow (unhide HB) (Nat.le_refl _) _, _, _, _, _, _, _, _, rfl, by rw [unhide HST]; exact rfl⟩
  by_cases h2 : W.length = 2
  · obtain ⟨x0, x1, hWW⟩ := len2 h2
    have c0 := unhide HCELL 0 x0 (by rw [hWW]; rfl)
    have c1 := unhide HCELL 1 x1 (by rw [hWW]; rfl)
    have z1 : (mk x1).size ≤ 1000000 := by have := hsz x1 (by rw [hWW]; simp); rw [mk_size]; omega
    rw [h2]
    have HWW := hide hWW
    clear hsz hlen HCELL hWW h3 h2
    by_cases hx : x0 = [100]
    · subst hx
      have he : ((mk [100]).toList == [100]) = true := by rw [mk_eq]; rfl
      have HR : Hid (∀ wx, Calls Tryz.prog 50 #[.string (mk x1)] wx fun e w' => e = .returned (.tuple #[.agg (stA ⟨#[100]⟩ (numI x1) 0 0 false ⟨#[]⟩), .bool (numV x1).isSome]) ∧ Below wx.heap.size wx w') := fun wx => readDelete_any (mk x1) wx z1
      have HST : Hid (StIs (stepW W) (stA ⟨#[100]⟩ (numI x1) 0 0 false ⟨#[]⟩) (numV x1).isSome) := by show StIs _ _ _; rw [unhide HWW]; exact stIs_del x1
      clear HWW
      generalize numI x1 = k at *
      generalize (numV x1).isSome = ok at *
      generalize mk x1 = y1 at *
      generalize mk [100] = y0 at *
      go_wp2_with fail
      refine (unhide HR _).mono ?_
      rintro e w2 ⟨rfl, hB2⟩
      have hb2 : w2.heap[w.heap.size]? = some (.cells (stA ⟨#[]⟩ 0 0 0 false ⟨#[]⟩) 68 (0, 0)) := (hB2.block _ hlt).trans (unhide HBK)
      have HB2 : Hid (Below w.heap.size w w2) := (unhide HB).trans (hB2.mono (by omega))
      have HK2 := hide hb2
      clear hB2 hb2
      go_wp2_with (first
        | (refine wpList_store_row rfl 68 _ _ rfl w.heap.size (stA ⟨#[100]⟩ k 0 0 false ⟨#[]⟩) rfl rfl 68 _ (unhide HK2) Tryz.infoStep1 rfl (st_all1 _ _ _ _ _ _) ?_)
        | fail)
      refine bodyPost_ret (results_row_tmp rfl _ _ w.heap.size _ (stA ⟨#[100]⟩ k 0 0 false ⟨#[]⟩) (0, 0) _ rfl (setRow_heap _ _ _ _ _ _ (unhide HK2)) Tryz.underlying68 rfl Tryz.infoStep1) rfl ?_
      exact ⟨below_setRow (unhide HB2) (Nat.le_refl _) _, _, _, _, _, _, _, _, rfl, unhide HST⟩
    · have he : ((mk x0).toList == [100]) = false := by rw [mk_eq]; simp [hx]
      have HST : Hid (stepW W = none) := by show stepW _ = none; rw [unhide HWW]; simp [stepW, hx]
      clear HWW
      generalize mk x0 = y0 at *
      go_wp2_with (first
        | (refine wpList_store_row rfl 68 _ _ rfl w.heap.size (stA ⟨#[]⟩ 0 0 0 false ⟨#[]⟩) rfl rfl 68 _ (unhide HBK) Tryz.infoStep1 rfl (st_all1 _ _ _ _ _ _) ?_)
        | fail)
      refine bodyPost_ret (results_row_tmp rfl _ _ w.heap.size _ (stA ⟨#[]⟩ 0 0 0 false ⟨#[]⟩) (0, 0) _ rfl (setRow_heap _ _ _ _ _ _ (unhide HBK)) Tryz.underlying68 rfl Tryz.infoStep1) rfl ?_
      exact ⟨below_setRow (unhide HB) (Nat.le_refl _) _, _, _, _, _, _, _, _, rfl, by rw [unhide HST]; exact rfl⟩
  by_cases h5 : W.length = 5
  · obtain ⟨x0, x1, x2, x3, x4, hWW⟩ := len5 h5
    have c0 := unhide HCELL 0 x0 (by rw [hWW]; rfl)
    have c1 := unhide HCELL 1 x1 (by rw [hWW]; rfl)
    have c2 := unhide HCELL 2 x2 (by rw [hWW]; rfl)
    have c3 := unhide HCELL 3 x3 (by rw [hWW]; rfl)
    have c4 := unhide HCELL 4 x4 (by rw [hWW]; rfl)
    have z1 : (mk x1).size ≤ 1000000 := by have := hsz x1 (by rw [hWW]; simp); rw [mk_size]; omega
    have z2 : (mk x2).size ≤ 1000000 := by have := hsz x2 (by rw [hWW]; simp); rw [mk_size]; omega
    have z3 : (mk x3).size ≤ 1000000 := by have := hsz x3 (by rw [hWW]; simp); rw [mk_size]; omega
    have z4 : (mk x4).size ≤ 1000000 := by have := hsz x4 (by rw [hWW]; simp); rw [mk_size]; omega
    rw [h5]
    have HWW := hide hWW
    clear hsz hlen HCELL hWW h3 h2 h5
    by_cases hx : x0 = [105]
    · subst hx
      have he : ((mk [105]).toList == [105]) = true := by rw [mk_eq]; rfl
      have HR : Hid (∀ wx, Calls Tryz.prog 51 #[.string (mk x1), .string (mk x2), .string (mk x3), .string (mk x4)] wx fun e w' => e = .returned (.tuple #[.agg (stA ⟨#[105]⟩ (numI x1) (numI x2) (numI x3) (labB (labV x4)) (labT (labV x4))), .bool (((numV x1).isSome && (numV x2).isSome) && (numV x3).isSome && (labV x4).isSome)]) ∧ Below wx.heap.size wx w') := fun wx => readInsert_any (mk x1) (mk x2) (mk x3) (mk x4) wx z1 z2 z3 z4
      have HST : Hid (StIs (stepW W) (stA ⟨#[105]⟩ (numI x1) (numI x2) (numI x3) (labB (labV x4)) (labT (labV x4))) (((numV x1).isSome && (numV x2).isSome) && (numV x3).isSome && (labV x4).isSome)) := by show StIs _ _ _; rw [unhide HWW]; exact stIs_ins x1 x2 x3 x4
      clear HWW
      generalize numI x1 = k at *
      generalize numI x2 = k2 at *
      generalize numI x3 = k3 at *
      generalize (((numV x1).isSome && (numV x2).isSome) && (numV x3).isSome && (labV x4).isSome) = ok at *
      generalize labB (labV x4) = li at *
      generalize labT (labV x4) = lt at *
      generalize mk x1 = y1 at *
      generalize mk x2 = y2 at *
      generalize mk x3 = y3 at *
      generalize mk x4 = y4 at *
      generalize mk [105] = y0 at *
      go_wp2_with fail
      go_region_with (go_at_call 51; refine (unhide HR _).mono ?_; rintro e w2 ⟨rfl, hB2⟩; have hb2 : w2.heap[w.heap.size]? = some (.cells (stA ⟨#[]⟩ 0 0 0 false ⟨#[]⟩) 68 (0, 0)) := (hB2.block _ hlt).trans (unhide HBK); have HB2 : Hid (Below w.heap.size w w2) := (((unhide HB).drew).trans (hB2.mono (by show w.heap.size ≤ w1.heap.size; omega))); obtain ⟨e0, e1, e2, e3, e4, e5, e6, e7⟩ := st_cells hb2; have HK2 := hide hb2; clear hB2 hb2)
      all_goals go_wp2_with fail
      all_goals refine bodyPost_ret (results_row_tmp rfl _ _ w.heap.size _ (stA ⟨#[105]⟩ k k2 k3 li lt) (0, 0) _ rfl (set7 _ _ _ _ _ _ _ (unhide HK2)) Tryz.underlying68 rfl Tryz.infoStep1) rfl ?_
      all_goals exact ⟨below_set7 (unhide HB2) (Nat.le_refl _) _ _ _ _ _ _ _, _, _, _, _, _, _, _, rfl, unhide HST⟩
    · have he : ((mk x0).toList == [105]) = false := by rw [mk_eq]; simp [hx]
      have HST : Hid (stepW W = none) := by show stepW _ = none; rw [unhide HWW]; simp [stepW, hx]
      clear HWW
      generalize mk x0 = y0 at *
      go_wp2_with (first
        | (refine wpList_store_row rfl 68 _ _ rfl w.heap.size (stA ⟨#[]⟩ 0 0 0 false ⟨#[]⟩) rfl rfl 68 _ (unhide HBK) Tryz.infoStep1 rfl (st_all1 _ _ _ _ _ _) ?_)
        | fail)
      refine bodyPost_ret (results_row_tmp rfl _ _ w.heap.size _ (stA ⟨#[]⟩ 0 0 0 false ⟨#[]⟩) (0, 0) _ rfl (setRow_heap _ _ _ _ _ _ (unhide HBK)) Tryz.underlying68 rfl Tryz.infoStep1) rfl ?_
      exact ⟨below_setRow (unhide HB) (Nat.le_refl _) _, _, _, _, _, _, _, _, rfl, by rw [unhide HST]; exact rfl⟩
  have n3 : ((W.length : Int) == 3) = false := by rw [beq_eq_false_iff_ne]; omega
  have n2 : ((W.length : Int) == 2) = false := by rw [beq_eq_false_iff_ne]; omega
  have n5 : ((W.length : Int) == 5) = false := by rw [beq_eq_false_iff_ne]; omega
  have HST : Hid (stepW W = none) := by
    show stepW W = none
    match W, h3, h2, h5 with
    | [], _, _, _ => rfl
    | [_], _, _, _ => rfl
    | [_, _], _, h, _ => exact absurd rfl h
    | [_, _, _], h, _, _ => exact absurd rfl h
    | [_, _, _, _], _, _, _ => rfl
    | [_, _, _, _, _], _, _, h => exact absurd rfl h
    | _ :: _ :: _ :: _ :: _ :: _ :: _, _, _, _ => rfl
  clear h3 h2 h5 hsz HCELL
  generalize W.length = n at *
  go_wp2_with (first
    | (refine wpList_store_row rfl 68 _ _ rfl w.heap.size (stA ⟨#[]⟩ 0 0 0 false ⟨#[]⟩) rfl rfl 68 _ (unhide HBK) Tryz.infoStep1 rfl (st_all1 _ _ _ _ _ _) ?_)
    | fail)
  refine bodyPost_ret (results_row_tmp rfl _ _ w.heap.size _ (stA ⟨#[]⟩ 0 0 0 false ⟨#[]⟩) (0, 0) _ rfl (setRow_heap _ _ _ _ _ _ (unhide HBK)) Tryz.underlying68 rfl Tryz.infoStep1) rfl ?_
  exact ⟨below_setRow (unhide HB) (Nat.le_refl _) _, _, _, _, _, _, _, _, rfl, by rw [unhide HST]; exact rfl⟩

end Go.Proofs.YtdaneedflpfeaabGreatDoor
