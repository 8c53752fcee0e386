import Derived.Test.YtabafeckdclekaaGreatDoorPatE
namespace Go.Proofs.YtabafeckdclekaaGreatDoor
set_option maxRecDepth 100000
open Go.RowKit

def numI (l : List UInt8) : Int := ((numV l).getD 0 : Nat)
theorem numI_bd (l : List UInt8) : 0 ≤ numI l ∧ numI l ≤ 999999 := by
  unfold numI
  cases h : numV l with
  | none => simp
  | some n => have := numV_bd h; simp; omega
theorem numR_eq (l : List UInt8) : numR (numV l) = .returned (.tuple #[.int .i64 (numI l), .bool (numV l).isSome]) := by unfold numI; cases numV l <;> rfl
/-- A step in memory. -/
abbrev stA (kd : ByteArray) (x y z : Int) (b : Bool) (t : ByteArray) : Array Value := #[.string kd, .int .i64 x, .int .i64 y, .int .i64 z, .bool b, .string t, .int .i64 0]
theorem Tryz.infoStep1 : (Tryz.prog.info? 53).map (·.size) = some 7 := by kernel_rfl
theorem st_all1 (kd : ByteArray) (x y z : Int) (b : Bool) (t : ByteArray) : ((stA kd x y z b t).all fun x => x.oneCell') = true := by simp [Value.oneCell']
theorem ret_step {cs ds : Array Value} {a b : Bool} (h1 : cs = ds) (h2 : a = b) : Ending.returned (.tuple #[.agg cs, .bool a]) = .returned (.tuple #[.agg ds, .bool b]) := by rw [h1, h2]

set_option maxHeartbeats 1600000 in
theorem readRename_any (a b : ByteArray) (w : World) (ha : a.size ≤ 1000000) (hb : b.size ≤ 1000000) :
    Calls Tryz.prog 38 #[.string a, .string b] w fun e w' => e = .returned (.tuple #[.agg (stA ⟨#[114]⟩ (numI a.data.toList) 0 0 (labB (labV b.data.toList)) (labT (labV b.data.toList))), .bool ((numV a.data.toList).isSome && (labV b.data.toList).isSome)]) ∧ Below w.heap.size w w' := by
  have HN : Hid (∀ wx, Calls Tryz.prog 63 #[.string a] wx fun e w' => e = .returned (.tuple #[.int .i64 (numI a.data.toList), .bool (numV a.data.toList).isSome]) ∧ w' = wx) := fun wx => by rw [← numR_eq]; exact readNumber_any a wx ha
  have HL : Hid (∀ wx, Calls Tryz.prog 64 #[.string b] wx fun e w' => e = .returned (.tuple #[.agg (ndA (labB (labV b.data.toList)) (labT (labV b.data.toList))), .bool (labV b.data.toList).isSome]) ∧ Below wx.heap.size wx w') := fun wx => readLabel_any b wx hb
  generalize numI a.data.toList = k at *
  generalize (numV a.data.toList).isSome = b1 at *
  generalize (labV b.data.toList).isSome = b2 at *
  generalize labB (labV b.data.toList) = li at *
  generalize labT (labV b.data.toList) = lt at *
  cases b1
  all_goals
    go_enter Tryz.func38, Tryz.ntmps38
    go_wp2_with fail
    refine (unhide HN _).mono ?_
    rintro e w1 ⟨rfl, hw⟩; have hw := hw.symm; subst hw
    go_wp2_with fail
    refine (unhide HL _).mono ?_
    rintro e w1 ⟨rfl, hB⟩
    have HBK : Hid (w1.heap[w.heap.size]? = some (.cells (stA ⟨#[]⟩ 0 0 0 false ⟨#[]⟩) 53 (0, 0))) := (hB.block _ (by simp)).trans (heap_alloc_new _ _)
    have HB : Hid (Below w.heap.size w w1) := ((Below.refl w.heap.size w).alloc (Nat.le_refl _) _).trans (hB.mono (by simp))
    have hlt : w.heap.size < w1.heap.size := by have := hB.size; simp at this; omega
    clear hB
    go_wp2_with (first
      | (refine wpList_store_row rfl 53 _ _ rfl w.heap.size (stA ⟨#[114]⟩ k 0 0 li lt) rfl rfl 53 _ ((heap_alloc_old _ _ hlt).trans (unhide HBK)) Tryz.infoStep1 rfl (st_all1 _ _ _ _ _ _) ?_)
      | fail)
    refine bodyPost_ret (results_row_tmp rfl _ _ w.heap.size _ (stA ⟨#[114]⟩ k 0 0 li lt) (0, 0) _ rfl (setRow_heap _ _ _ _ _ _ ((heap_alloc_old _ _ hlt).trans (unhide HBK))) Tryz.underlying53 rfl Tryz.infoStep1) rfl ?_
    exact ⟨ret_step rfl (by simp), below_setRow ((unhide HB).alloc (by omega) _) (Nat.le_refl _) _⟩

set_option maxHeartbeats 1600000 in
theorem readDelete_any (a : ByteArray) (w : World) (ha : a.size ≤ 1000000) :
    Calls Tryz.prog 39 #[.string a] w fun e w' => e = .returned (.tuple #[.agg (stA ⟨#[100]⟩ (numI a.data.toList) 0 0 false ⟨#[]⟩), .bool (numV a.data.toList).isSome]) ∧ Below w.heap.size w w' := by
  have HN : Hid (∀ wx, Calls Tryz.prog 63 #[.string a] wx fun e w' => e = .returned (.tuple #[.int .i64 (numI a.data.toList), .bool (numV a.data.toList).isSome]) ∧ w' = wx) := fun wx => by rw [← numR_eq]; exact readNumber_any a wx ha
  generalize numI a.data.toList = k at *
  generalize (numV a.data.toList).isSome = b1 at *
  go_enter Tryz.func39, Tryz.ntmps39
  go_wp2_with fail
  refine (unhide HN _).mono ?_
  rintro e w1 ⟨rfl, hw⟩; have hw := hw.symm; subst hw
  go_wp2_with (first
    | (refine wpList_store_row rfl 53 _ _ rfl w.heap.size (stA ⟨#[100]⟩ k 0 0 false ⟨#[]⟩) rfl rfl 53 _ (heap_alloc_new _ _) Tryz.infoStep1 rfl (st_all1 _ _ _ _ _ _) ?_)
    | fail)
  refine bodyPost_ret (results_row_tmp rfl _ _ w.heap.size _ (stA ⟨#[100]⟩ k 0 0 false ⟨#[]⟩) (0, 0) _ rfl (by first | exact setRow_heap _ _ _ _ _ _ (heap_alloc_new _ _) | exact heap_alloc_new _ _) Tryz.underlying53 rfl Tryz.infoStep1) rfl ?_
  first
    | exact ⟨rfl, below_setRow ((Below.refl w.heap.size w).alloc (Nat.le_refl _) _) (Nat.le_refl _) _⟩
    | exact ⟨rfl, (Below.refl w.heap.size w).alloc (Nat.le_refl _) _⟩

set_option maxHeartbeats 3200000 in
theorem readInsert_any (a b c d : ByteArray) (w : World) (ha : a.size ≤ 1000000) (hb : b.size ≤ 1000000) (hc : c.size ≤ 1000000) (hd : d.size ≤ 1000000) :
    Calls Tryz.prog 40 #[.string a, .string b, .string c, .string d] w fun e w' => e = .returned (.tuple #[.agg (stA ⟨#[105]⟩ (numI a.data.toList) (numI b.data.toList) (numI c.data.toList) (labB (labV d.data.toList)) (labT (labV d.data.toList))), .bool (((numV a.data.toList).isSome && (numV b.data.toList).isSome) && (numV c.data.toList).isSome && (labV d.data.toList).isSome)]) ∧ Below w.heap.size w w' := by
  have HNA : Hid (∀ wx, Calls Tryz.prog 63 #[.string a] wx fun e w' => e = .returned (.tuple #[.int .i64 (numI a.data.toList), .bool (numV a.data.toList).isSome]) ∧ w' = wx) := fun wx => by rw [← numR_eq]; exact readNumber_any a wx ha
  have HNB : Hid (∀ wx, Calls Tryz.prog 63 #[.string b] wx fun e w' => e = .returned (.tuple #[.int .i64 (numI b.data.toList), .bool (numV b.data.toList).isSome]) ∧ w' = wx) := fun wx => by rw [← numR_eq]; exact readNumber_any b wx hb
  have HNC : Hid (∀ wx, Calls Tryz.prog 63 #[.string c] wx fun e w' => e = .returned (.tuple #[.int .i64 (numI c.data.toList), .bool (numV c.data.toList).isSome]) ∧ w' = wx) := fun wx => by rw [← numR_eq]; exact readNumber_any c wx hc
  have HL : Hid (∀ wx, Calls Tryz.prog 64 #[.string d] wx fun e w' => e = .returned (.tuple #[.agg (ndA (labB (labV d.data.toList)) (labT (labV d.data.toList))), .bool (labV d.data.toList).isSome]) ∧ Below wx.heap.size wx w') := fun wx => readLabel_any d wx hd
  generalize numI a.data.toList = ka at *
  generalize numI b.data.toList = kb at *
  generalize numI c.data.toList = kc at *
  generalize (numV a.data.toList).isSome = b1 at *
  generalize (numV b.data.toList).isSome = b2 at *
  generalize (numV c.data.toList).isSome = b3 at *
  generalize (labV d.data.toList).isSome = b4 at *
  generalize labB (labV d.data.toList) = li at *
  generalize labT (labV d.data.toList) = lt at *
  go_enter Tryz.func40, Tryz.ntmps40
  go_wp2_with fail
  refine (unhide HNA _).mono ?_
  rintro e w1 ⟨rfl, hw⟩; have hw := hw.symm; subst hw
  go_wp2_with fail
  refine (unhide HNB _).mono ?_
  rintro e w1 ⟨rfl, hw⟩; have hw := hw.symm; subst hw
  go_wp2_with fail
  refine (unhide HNC _).mono ?_
  rintro e w1 ⟨rfl, hw⟩; have hw := hw.symm; subst hw
  go_wp2_with fail
  refine (unhide HL _).mono ?_
  rintro e w1 ⟨rfl, hB⟩
  have HBK : Hid (w1.heap[w.heap.size]? = some (.cells (stA ⟨#[]⟩ 0 0 0 false ⟨#[]⟩) 53 (0, 0))) := (hB.block _ (by simp)).trans (heap_alloc_new _ _)
  have HB : Hid (Below w.heap.size w w1) := ((Below.refl w.heap.size w).alloc (Nat.le_refl _) _).trans (hB.mono (by simp))
  have hlt : w.heap.size < w1.heap.size := by have := hB.size; simp at this; omega
  clear hB HNA HNB HNC HL
  cases b1 <;> cases b2 <;> cases b3
  all_goals
    go_wp2_with (first
      | (refine wpList_store_row rfl 53 _ _ rfl w.heap.size (stA ⟨#[105]⟩ ka kb kc li lt) rfl rfl 53 _ ((heap_alloc_old _ _ (by simp; omega)).trans ((heap_alloc_old _ _ hlt).trans (unhide HBK))) Tryz.infoStep1 rfl (st_all1 _ _ _ _ _ _) ?_)
      | fail)
    refine bodyPost_ret (results_row_tmp rfl _ _ w.heap.size _ (stA ⟨#[105]⟩ ka kb kc li lt) (0, 0) _ rfl (setRow_heap _ _ _ _ _ _ ((heap_alloc_old _ _ (by simp; omega)).trans ((heap_alloc_old _ _ hlt).trans (unhide HBK)))) Tryz.underlying53 rfl Tryz.infoStep1) rfl ?_
    exact ⟨ret_step rfl (by simp), below_setRow (((unhide HB).alloc (by omega) _).alloc (by simp; omega) _) (Nat.le_refl _) _⟩

end Go.Proofs.YtabafeckdclekaaGreatDoor
