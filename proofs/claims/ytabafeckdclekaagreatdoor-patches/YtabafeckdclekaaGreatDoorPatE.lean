import Derived.Test.YtabafeckdclekaaGreatDoorPatD
import Derived.Laws.CopyOwn
namespace Go.Proofs.YtabafeckdclekaaGreatDoor
set_option maxRecDepth 100000
open Go.RowKit

/-- Two results, the first of them a struct in memory of its own. -/
theorem results_row_tmp {P : Program} {fn : Func} {p u : Tmp} {ty : TypeId} (h : fn.results = #[.cell p ty, .tmp u]) (tmps : Array Value) (w : World) (g : Nat) (t : TypeId) (cs : Array Value) (fr : Nat × Nat) (d : TypeDesc)
    (hp : tmps.getD p undef = .pointer (some ⟨g, 0, none⟩)) (hg : w.heap[g]? = some (.cells cs t fr))
    (hu : P.underlying ty = some d) (hd : (match d with | .struct _ | .array _ _ => true | _ => false) = true) (hi : (P.info? ty).map (·.size) = some cs.size) :
    (results fn tmps).run P w = .ok (.tuple #[.agg cs, tmps.getD u undef]) w := by
  rw [results_cell_tmp h, hp]
  simp only [asAddr, Sem.run_pure, Result.andThen_ok, run_loadVar_row w g t ty cs fr d hg hu hd hi]

/-- The label that a word tells. -/
def labV : List UInt8 → Option (Bool × List UInt8)
  | [] => none
  | c :: t => if c = 64 then some (true, t) else if c = 39 then (unL t).map fun o => (false, o) else none
def labB (o : Option (Bool × List UInt8)) : Bool := (o.getD (false, [])).1
def labT (o : Option (Bool × List UInt8)) : ByteArray := mk (o.getD (false, [])).2
abbrev ndA (b : Bool) (t : ByteArray) : Array Value := #[.bool b, .string t, .int .i64 0]
def labR (o : Option (Bool × List UInt8)) : Ending := .returned (.tuple #[.agg (ndA (labB o) (labT o)), .bool o.isSome])
theorem Tryz.infoNd1 : (Tryz.prog.info? 51).map (·.size) = some 3 := by kernel_rfl
theorem labR_some (b : Bool) (t : List UInt8) (x : ByteArray) (hx : x = mk t) : Ending.returned (.tuple #[.agg #[.bool b, .string x, .int .i64 0], .bool true]) = labR (some (b, t)) := by rw [hx]; rfl
theorem labR_none : Ending.returned (.tuple #[.agg #[.bool false, .string ⟨#[]⟩, .int .i64 0], .bool false]) = labR none := rfl
theorem nd_all1 (b : Bool) (t : ByteArray) (d : Int) : (#[Value.bool b, .string t, .int .i64 d].all fun x => x.oneCell') = true := by simp [Value.oneCell']
theorem rest_mk {s : ByteArray} : s.extract 1 s.size = mk (s.data.toList.drop 1) := by
  rw [ext_mk, List.take_of_length_le (by rw [List.length_drop]; exact Nat.le_refl _)]

set_option maxHeartbeats 1600000 in
theorem readLabel_any (s : ByteArray) (w : World) (hs : s.size ≤ 1000000) :
    Calls Tryz.prog 64 #[.string s] w fun e w' => e = labR (labV s.data.toList) ∧ Below w.heap.size w w' := by
  by_cases he : s.size = 0
  · have hse := size0 he
    subst hse
    go_enter Tryz.func64, Tryz.ntmps64
    go_wp2_with fail
    refine bodyPost_ret (results_row_tmp rfl _ _ w.heap.size _ _ (0, 0) _ rfl (heap_alloc_new _ _) Tryz.underlying51 rfl Tryz.infoNd1) rfl ?_
    exact ⟨rfl, (Below.refl _ _).alloc (Nat.le_refl _) _⟩
  have hpos : 0 < s.size := by omega
  have hne := toList_ne hpos
  have hD := drop_at hpos
  rw [List.drop_zero] at hD
  have HX := hide (rest_mk (s := s))
  by_cases h64 : s[0] = 64
  · have h64' : ((s[0].toNat : Int) == 64) = true := by rw [h64]; rfl
    have HV : Hid (labV s.data.toList = some (true, s.data.toList.drop 1)) := by show _ = _; rw [hD, labV, if_pos h64]; rfl
    clear hD h64
    go_enter Tryz.func64, Tryz.ntmps64
    go_wp2_with fail
    refine bodyPost_ret (results_row_tmp rfl _ _ w.heap.size _ _ (0, 0) _ rfl (heap_alloc_new _ _) Tryz.underlying51 rfl Tryz.infoNd1) rfl ?_
    rw [unhide HV]
    exact ⟨labR_some _ _ _ (unhide HX), (Below.refl _ _).alloc (Nat.le_refl _) _⟩
  have h64' : ((s[0].toNat : Int) == 64) = false := u8_ne h64
  by_cases h39 : s[0] = 39
  · have h39' : ((s[0].toNat : Int) == 39) = true := by rw [h39]; rfl
    have HV : Hid (labV s.data.toList = (unL (s.data.toList.drop 1)).map fun o => (false, o)) := by show _ = _; rw [hD, labV, if_neg h64, if_pos h39]; rfl
    have hsz : (s.extract 1 s.size).size ≤ 1000000 := by rw [ByteArray.size_extract]; omega
    have HU : Hid (∀ wx, Calls Tryz.prog 78 #[.string (s.extract 1 s.size)] wx fun e w' => e = unR (unL (s.data.toList.drop 1)) ∧ Below wx.heap.size wx w') := fun wx => by
      have := unescaped_any (s.extract 1 s.size) wx hsz
      rw [unhide HX] at this ⊢
      exact this
    clear hD h64 h39 HX
    cases hu : unL (s.data.toList.drop 1) with
    | none =>
      rw [hu] at HU HV
      go_enter Tryz.func64, Tryz.ntmps64
      go_wp2_with fail
      refine (unhide HU _).mono ?_
      rintro e w1 ⟨he, hB⟩
      have he' : e = .returned (.tuple #[.string ⟨#[]⟩, .bool false]) := he
      subst he'
      clear he
      have hblk : w1.heap[w.heap.size]? = some (.cells #[.bool false, .string ⟨#[]⟩, .int .i64 0] 51 (0, 0)) := (hB.block _ (by simp)).trans (heap_alloc_new _ _)
      have HBK := hide hblk
      have HB : Hid (Below w.heap.size w w1) := ((Below.refl w.heap.size w).alloc (Nat.le_refl _) _).trans (hB.mono (by simp))
      clear hB hblk hu
      go_wp2_with (first
        | (refine wpList_store_row rfl 51 _ _ rfl w.heap.size #[.bool false, .string ⟨#[]⟩, .int .i64 0] rfl rfl 51 _ (unhide HBK) Tryz.infoNd1 rfl (nd_all1 _ _ _) ?_)
        | fail)
      refine bodyPost_ret (results_row_tmp rfl _ _ w.heap.size _ #[.bool false, .string ⟨#[]⟩, .int .i64 0] (0, 0) _ rfl (setRow_heap _ _ _ _ _ _ (unhide HBK)) Tryz.underlying51 rfl Tryz.infoNd1) rfl ?_
      rw [unhide HV]
      exact ⟨labR_none, below_setRow (unhide HB) (Nat.le_refl _) _⟩
    | some o =>
      rw [hu] at HU HV
      go_enter Tryz.func64, Tryz.ntmps64
      go_wp2_with fail
      refine (unhide HU _).mono ?_
      rintro e w1 ⟨he, hB⟩
      have he' : e = .returned (.tuple #[.string (mk o), .bool true]) := he
      subst he'
      clear he
      have hblk : w1.heap[w.heap.size]? = some (.cells #[.bool false, .string ⟨#[]⟩, .int .i64 0] 51 (0, 0)) := (hB.block _ (by simp)).trans (heap_alloc_new _ _)
      have HBK := hide hblk
      have HB : Hid (Below w.heap.size w w1) := ((Below.refl w.heap.size w).alloc (Nat.le_refl _) _).trans (hB.mono (by simp))
      clear hB hblk hu
      go_wp2_with (first
        | (refine wpList_store_row rfl 51 _ _ rfl w.heap.size #[.bool false, .string (mk o), .int .i64 0] rfl rfl 51 _ (unhide HBK) Tryz.infoNd1 rfl (nd_all1 _ _ _) ?_)
        | fail)
      refine bodyPost_ret (results_row_tmp rfl _ _ w.heap.size _ #[.bool false, .string (mk o), .int .i64 0] (0, 0) _ rfl (setRow_heap _ _ _ _ _ _ (unhide HBK)) Tryz.underlying51 rfl Tryz.infoNd1) rfl ?_
      rw [unhide HV]
      exact ⟨labR_some _ _ _ rfl, below_setRow (unhide HB) (Nat.le_refl _) _⟩
  have h39' : ((s[0].toNat : Int) == 39) = false := u8_ne h39
  have HV : Hid (labV s.data.toList = none) := by show _ = _; rw [hD, labV, if_neg h64, if_neg h39]
  clear hD h64 h39 HX
  go_enter Tryz.func64, Tryz.ntmps64
  go_wp2_with fail
  refine bodyPost_ret (results_row_tmp rfl _ _ w.heap.size _ _ (0, 0) _ rfl (heap_alloc_new _ _) Tryz.underlying51 rfl Tryz.infoNd1) rfl ?_
  rw [unhide HV]
  exact ⟨labR_none, (Below.refl _ _).alloc (Nat.le_refl _) _⟩

end Go.Proofs.YtabafeckdclekaaGreatDoor
