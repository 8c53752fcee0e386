import Derived.Test.YtdaneedflpfeaabGreatDoorState
import Derived.Laws.AppendOwnNone
import Derived.Test.YtdaneedflpfeaabGreatDoorPatC
import Derived.Laws.ResultCell
import Derived.Laws.CopyOwn
namespace Go.Proofs.YtdaneedflpfeaabGreatDoor
set_option maxRecDepth 100000
open Go.RowKit

theorem grown_refl (w : World) (row : Option Nat) : w.grownBy w row := ⟨rfl, rfl, rfl, Nat.le_refl _, fun _ _ _ => rfl⟩
theorem grown_drewN (w : World) (n : Nat) (row : Option Nat) : w.grownBy (w.drewN n) row := ⟨rfl, rfl, rfl, Nat.le_refl _, fun _ _ _ => rfl⟩
theorem grown_drew (w : World) (row : Option Nat) : w.grownBy w.drew row := ⟨rfl, rfl, rfl, Nat.le_refl _, fun _ _ _ => rfl⟩
theorem grown_set (w : World) (b j : Nat) (v : Value) : w.grownBy (w.setCell ⟨b, j, none⟩ v) (some b) := by
  have hb := Below.setCell (Below.refl 0 w) (p := ⟨b, j, none⟩) (Nat.zero_le _) v
  exact ⟨hb.os, hb.tape, hb.output, hb.size, fun k _ hne => Below.heap_setCell w _ v k (fun e => hne (by rw [e]))⟩
theorem ownsRow_base {w : World} {base base2 : Nat} {e : TypeId} {size n : Nat} {v : Value} {xs : List Value} (h : w.ownsRow base e size v n xs) (hb : base2 ≤ base) : w.ownsRow base2 e size v n xs := by
  refine ⟨h.1, ?_⟩
  rcases h.2 with h0 | ⟨g, cap, cur, h1, h2, h3⟩
  · exact .inl h0
  · exact .inr ⟨g, cap, cur, h1, by omega, h3⟩
theorem row_form {w : World} {base n : Nat} {e : TypeId} {size : Nat} {v : Value} {xs : List Value} (h : w.ownsRow base e size v n xs) : (v = .slice none 0 0 ∧ n = 0) ∨ ∃ g cap, v = .slice (some ⟨g, 0, none⟩) n cap ∧ g < w.heap.size := by
  rcases h.2 with h0 | ⟨g, cap, cur, rfl, _, hg, _⟩
  · exact .inl h0
  · exact .inr ⟨g, cap, rfl, (Array.getElem?_eq_some_iff.1 hg).1⟩

end Go.Proofs.YtdaneedflpfeaabGreatDoor

namespace Go.Proofs.YtdaneedflpfeaabGreatDoor
set_option maxRecDepth 100000
open Go.RowKit

/-! ## Words -/
/-- A text at a byte. -/
def splitL (c : UInt8) : List UInt8 → List (List UInt8)
  | [] => [[]]
  | x :: t => if x = c then [] :: splitL c t else match splitL c t with
    | [] => [[x]]
    | h :: r => (x :: h) :: r
theorem splitL_none {c : UInt8} (l : List UInt8) (h : ∀ x ∈ l, x ≠ c) : splitL c l = [l] := by
  induction l with
  | nil => rfl
  | cons x l ih => rw [splitL, if_neg (h x (by simp)), ih (fun y hy => h y (by simp [hy]))]
theorem splitL_at {c : UInt8} (l m : List UInt8) (h : ∀ x ∈ l, x ≠ c) : splitL c (l ++ c :: m) = l :: splitL c m := by
  induction l with
  | nil => rw [List.nil_append, splitL, if_pos rfl]
  | cons x l ih => rw [List.cons_append, splitL, if_neg (h x (by simp)), ih (fun y hy => h y (by simp [hy]))]
theorem splitL_len (c : UInt8) (l : List UInt8) : 1 ≤ (splitL c l).length ∧ (splitL c l).length ≤ l.length + 1 := by
  induction l with
  | nil => simp [splitL]
  | cons x l ih =>
    rw [splitL]
    split
    · simp only [List.length_cons]; omega
    · split
      · simp
      · rename_i h r e
        rw [e] at ih
        simp only [List.length_cons] at ih ⊢; omega
theorem splitL_size (c : UInt8) (l : List UInt8) : ∀ x ∈ splitL c l, x.length ≤ l.length := by
  induction l with
  | nil => intro x hx; simp [splitL] at hx; subst hx; simp
  | cons y l ih =>
    intro x hx
    rw [splitL] at hx
    split at hx
    · rcases List.mem_cons.1 hx with rfl | hx
      · simp
      · have := ih x hx; simp only [List.length_cons]; omega
    · split at hx
      · simp at hx; subst hx; simp
      · rename_i h r e
        rw [e] at ih
        rcases List.mem_cons.1 hx with rfl | hx
        · have := ih h (by simp); simp only [List.length_cons]; omega
        · have := ih x (by simp [hx]); simp only [List.length_cons]; omega
/-- Texts in memory. -/
def strsV (l : List (List UInt8)) : List Value := l.map fun x => .string (mk x)
theorem strsV_append (l m : List (List UInt8)) : strsV (l ++ m) = strsV l ++ strsV m := by simp [strsV]
theorem Tryz.infoStr : (Tryz.prog.info? 9).map (fun i => (i.zero, i.size, i.bytes)) = some (some (.string ⟨#[]⟩), 1, 16) := by kernel_rfl
theorem ext_mk (s : ByteArray) (a b : Nat) : s.extract a b = mk ((s.data.toList.drop a).take (b - a)) := by
  apply str_eq
  rw [Go.Lib.extract_toList, mk_toList]
theorem seg_at {s : ByteArray} {f k : Nat} (hf : f ≤ k) (hk : k < s.size) : s.data.toList.drop f = (s.data.toList.drop f).take (k - f) ++ s[k] :: s.data.toList.drop (k + 1) := by
  have h1 := (List.take_append_drop (k - f) (s.data.toList.drop f)).symm
  rw [List.drop_drop, show f + (k - f) = k from by omega, drop_at hk] at h1
  exact h1
theorem seg_mem {s : ByteArray} {f k : Nat} {c : UInt8} (h : ∀ j (hj : j < s.size), f ≤ j → j < k → s[j] ≠ c) : ∀ x ∈ (s.data.toList.drop f).take (k - f), x ≠ c := by
  intro x hx
  obtain ⟨j, hj, rfl⟩ := List.mem_iff_getElem.1 hx
  have hj' : j < k - f ∧ j < s.size - f := by
    simp only [List.length_take, List.length_drop] at hj
    have h2 : s.data.toList.length = s.size := rfl
    omega
  have := h (f + j) (by omega) (by omega) (by omega)
  simp only [List.getElem_take, List.getElem_drop]
  exact this

set_option maxHeartbeats 1600000 in
theorem words_any (s : ByteArray) (w : World) (hs : s.size ≤ 1000000) :
    Calls Tryz.prog 48 #[.string s] w fun e w' => Below w.heap.size w w' ∧ ∃ v, e = .returned v ∧ w'.ownsRow w.heap.size 9 1 v (splitL 32 s.data.toList).length (strsV (splitL 32 s.data.toList)) := by
  obtain ⟨i0, hi, hz0, hz1, hz2⟩ := info_parts Tryz.infoStr
  go_enter Tryz.func48, Tryz.ntmps48
  go_wp2_with fail
  go_loopw [3, 4, 5] (fun v f i wr => ∃ (k n : Nat) (L : List (List UInt8)), k ≤ s.size ∧ n ≤ k ∧ L.length ≤ n ∧ i = .int .i64 k ∧ f = .int .i64 n ∧ wr.ownsRow w.heap.size 9 1 v L.length (strsV L) ∧ Hid (splitL 32 s.data.toList = L ++ splitL 32 (s.data.toList.drop n)) ∧ Hid (∀ j (hj : j < s.size), n ≤ j → j < k → s[j] ≠ 32) ∧ Below w.heap.size w wr) (fun _ _ i _ => s.size - (intOf i).toNat)
  case atStart => exact ⟨0, 0, [], Nat.zero_le _, Nat.le_refl _, Nat.le_refl _, rfl, rfl, World.ownsRow_nil _ _ _ _, by show _ = _; rw [List.drop_zero]; rfl, fun j hj h1 h2 => by omega, Below.refl _ _⟩
  case round =>
    obtain ⟨k, n, L, hk, hn, hL, rfl, rfl, hown, HE, HNO, hB⟩ := hrel
    have HO := hide hown
    have HB := hide hB
    have hsz := hB.size
    clear hown hB
    by_cases hlt : k < s.size
    · by_cases h32 : s[k] = 32
      · have h32' : ((s[k].toNat : Int) == 32) = true := by rw [h32]; rfl
        have HE2 : Hid (splitL 32 s.data.toList = (L ++ [(s.data.toList.drop n).take (k - n)]) ++ splitL 32 (s.data.toList.drop (k + 1))) := by
          show _ = _
          rw [unhide HE, List.append_assoc]; congr 1
          have h1 := seg_at hn hlt
          rw [h32] at h1
          rw [h1, splitL_at _ _ (seg_mem (unhide HNO)), ← h1]; rfl
        have HX := hide (ext_mk s n k)
        clear h32 HE HNO
        go_wp2_with (first
          | (at_builtin; refine wpList_append_lies _ rfl (.tmp 16) (.tmp 21) 85 rfl w.heap.size 9 i0 (.string ⟨#[]⟩) 1 16 Tryz.underlying85 hi hz0 hz1 hz2 rfl (by decide) _ L.length (strsV L) rfl ((unhide HO).alloc _) ⟨wr.heap.size, 0, none⟩ 1 1 [.string (s.extract n k)] rfl rfl (news_of (heap_alloc_new _ _)) (by intro u hu; simp at hu; subst hu; rfl) (by decide) (by unfold maxLen; omega) (by omega) (by simp; omega) _ rfl ?_)
          | fail)
        intro g cap w2 hown2 hgrow _ hlt2
        have hB2 : Below w.heap.size w w2 := ((unhide HB).alloc hsz _).grown hgrow (by simp; omega) (fun j hj => ((unhide HO).lt j hj).1)
        have HB2 := hide hB2
        have HO2 := hide hown2
        clear hown2 hgrow hB2 HO HB
        go_wp2_with fail
        go_roundw
        case rel => exact ⟨k + 1, k + 1, L ++ [(s.data.toList.drop n).take (k - n)], by omega, by omega, by simp; omega, by go_num, by go_num, by rw [strsV_append, List.length_append, strsV, strsV, List.map_singleton, ← unhide HX]; exact unhide HO2, HE2, fun j hj h1 h2 => by omega, unhide HB2⟩
        case measure => simp [intOf]; omega
      · have h32' : ((s[k].toNat : Int) == 32) = false := u8_ne h32
        have HNO2 : Hid (∀ j (hj : j < s.size), n ≤ j → j < k + 1 → s[j] ≠ 32) := fun j hj h1 h2 => by
          rcases Nat.lt_or_ge j k with g | g
          · exact unhide HNO j hj h1 g
          · have : j = k := by omega
            subst this; exact h32
        clear HNO h32
        go_wp2_with fail
        go_roundw
        case rel => exact ⟨k + 1, n, L, by omega, by omega, hL, by go_num, rfl, unhide HO, HE, HNO2, unhide HB⟩
        case measure => simp [intOf]; omega
    · have HE2 : Hid (splitL 32 s.data.toList = L ++ [s.data.toList.drop n]) := by
        show _ = _
        rw [unhide HE]; congr 1
        have hm := seg_mem (unhide HNO)
        rw [List.take_of_length_le (by rw [List.length_drop]; show s.size - n ≤ _; omega)] at hm
        exact splitL_none _ hm
      have HX : Hid (s.extract n s.size = mk (s.data.toList.drop n)) := by
        show _ = _
        rw [ext_mk, List.take_of_length_le (by rw [List.length_drop]; exact Nat.le_refl _)]
      clear HE HNO
      go_wp2_with (first
        | (at_builtin; refine wpList_append_lies _ rfl (.tmp 25) (.tmp 29) 85 rfl w.heap.size 9 i0 (.string ⟨#[]⟩) 1 16 Tryz.underlying85 hi hz0 hz1 hz2 rfl (by decide) _ L.length (strsV L) rfl ((unhide HO).alloc _) ⟨wr.heap.size, 0, none⟩ 1 1 [.string (s.extract n s.size)] rfl rfl (news_of (heap_alloc_new _ _)) (by intro u hu; simp at hu; subst hu; rfl) (by decide) (by unfold maxLen; omega) (by omega) (by simp; omega) _ rfl ?_)
        | fail)
      intro g cap w2 hown2 hgrow _ hlt2
      have hB2 : Below w.heap.size w w2 := ((unhide HB).alloc hsz _).grown hgrow (by simp; omega) (fun j hj => ((unhide HO).lt j hj).1)
      have HB2 := hide hB2
      have HO2 := hide hown2
      clear hown2 hgrow hB2 HO HB
      go_wp2_with fail
      go_ret
      refine ⟨unhide HB2, _, rfl, ?_⟩
      rw [unhide HE2, strsV_append, List.length_append, strsV, strsV, List.map_singleton, ← unhide HX]
      exact unhide HO2

end Go.Proofs.YtdaneedflpfeaabGreatDoor

namespace Go.Proofs.YtdaneedflpfeaabGreatDoor
set_option maxRecDepth 100000
open Go.RowKit

/-- Two results, the first of them a struct in memory of its own. -/
theorem results_row_tmp {P : Program} {fn : Func} {p u : Tmp} {ty : TypeId} (h : fn.results = #[.cell p ty, .tmp u]) (tmps : Array Value) (w : World) (g : Nat) (t : TypeId) (cs : Array Value) (fr : Nat × Nat) (d : TypeDesc)
    (hp : tmps.getD p undef = .pointer (some ⟨g, 0, none⟩)) (hg : w.heap[g]? = some (.cells cs t fr))
    (hu : P.underlying ty = some d) (hd : (match d with | .struct _ | .array _ _ => true | _ => false) = true) (hi : (P.info? ty).map (·.size) = some cs.size) :
    (results fn tmps).run P w = .ok (.tuple #[.agg cs, tmps.getD u undef]) w := by
  rw [results_cell_tmp h, hp]
  simp only [asAddr, Sem.run_pure, Result.andThen_ok, run_loadVar_row w g t ty cs fr d hg hu hd hi]

/-- The label that a word tells. -/
def labV : List UInt8 → Option (Bool × List UInt8)
  | [] => none
  | c :: t => if c = 64 then some (true, t) else if c = 39 then (unL t).map fun o => (false, o) else none
def labB (o : Option (Bool × List UInt8)) : Bool := (o.getD (false, [])).1
def labT (o : Option (Bool × List UInt8)) : ByteArray := mk (o.getD (false, [])).2
abbrev ndA (b : Bool) (t : ByteArray) : Array Value := #[.bool b, .string t, .int .i64 0]
def labR (o : Option (Bool × List UInt8)) : Ending := .returned (.tuple #[.agg (ndA (labB o) (labT o)), .bool o.isSome])
theorem Tryz.infoNd1 : (Tryz.prog.info? 54).map (·.size) = some 3 := by kernel_rfl
theorem labR_some (b : Bool) (t : List UInt8) (x : ByteArray) (hx : x = mk t) : Ending.returned (.tuple #[.agg #[.bool b, .string x, .int .i64 0], .bool true]) = labR (some (b, t)) := by rw [hx]; rfl
theorem labR_none : Ending.returned (.tuple #[.agg #[.bool false, .string ⟨#[]⟩, .int .i64 0], .bool false]) = labR none := rfl
theorem nd_all1 (b : Bool) (t : ByteArray) (d : Int) : (#[Value.bool b, .string t, .int .i64 d].all fun x => x.oneCell') = true := by simp [Value.oneCell']
theorem rest_mk {s : ByteArray} : s.extract 1 s.size = mk (s.data.toList.drop 1) := by
  rw [ext_mk, List.take_of_length_le (by rw [List.length_drop]; exact Nat.le_refl _)]

set_option maxHeartbeats 1600000 in
theorem readLabel_any (s : ByteArray) (w : World) (hs : s.size ≤ 1000000) :
    Calls Tryz.prog 71 #[.string s] w fun e w' => e = labR (labV s.data.toList) ∧ Below w.heap.size w w' := by
  by_cases he : s.size = 0
  · have hse := size0 he
    subst hse
    go_enter Tryz.func71, Tryz.ntmps71
    go_wp2_with fail
    refine bodyPost_ret (results_row_tmp rfl _ _ w.heap.size _ _ (0, 0) _ rfl (heap_alloc_new _ _) Tryz.underlying54 rfl Tryz.infoNd1) rfl ?_
    exact ⟨rfl, (Below.refl _ _).alloc (Nat.le_refl _) _⟩
  have hpos : 0 < s.size := by omega
  have hne := toList_ne hpos
  have hD := drop_at hpos
  rw [List.drop_zero] at hD
  have HX := hide (rest_mk (s := s))
  by_cases h64 : s[0] = 64
  · have h64' : ((s[0].toNat : Int) == 64) = true := by rw [h64]; rfl
    have HV : Hid (labV s.data.toList = some (true, s.data.toList.drop 1)) := by show _ = _; rw [hD, labV, if_pos h64]; rfl
    clear hD h64
    go_enter Tryz.func71, Tryz.ntmps71
    go_wp2_with fail
    refine bodyPost_ret (results_row_tmp rfl _ _ w.heap.size _ _ (0, 0) _ rfl (heap_alloc_new _ _) Tryz.underlying54 rfl Tryz.infoNd1) rfl ?_
    rw [unhide HV]
    exact ⟨labR_some _ _ _ (unhide HX), (Below.refl _ _).alloc (Nat.le_refl _) _⟩
  have h64' : ((s[0].toNat : Int) == 64) = false := u8_ne h64
  by_cases h39 : s[0] = 39
  · have h39' : ((s[0].toNat : Int) == 39) = true := by rw [h39]; rfl
    have HV : Hid (labV s.data.toList = (unL (s.data.toList.drop 1)).map fun o => (false, o)) := by show _ = _; rw [hD, labV, if_neg h64, if_pos h39]; rfl
    have hsz : (s.extract 1 s.size).size ≤ 1000000 := by rw [ByteArray.size_extract]; omega
    have HU : Hid (∀ wx, Calls Tryz.prog 83 #[.string (s.extract 1 s.size)] wx fun e w' => e = unR (unL (s.data.toList.drop 1)) ∧ Below wx.heap.size wx w') := fun wx => by
      have := unescaped_any (s.extract 1 s.size) wx hsz
      rw [unhide HX] at this ⊢
      exact this
    clear hD h64 h39 HX
    cases hu : unL (s.data.toList.drop 1) with
    | none =>
      rw [hu] at HU HV
      go_enter Tryz.func71, Tryz.ntmps71
      go_wp2_with fail
      refine (unhide HU _).mono ?_
      rintro e w1 ⟨he, hB⟩
      have he' : e = .returned (.tuple #[.string ⟨#[]⟩, .bool false]) := he
      subst he'
      clear he
      have hblk : w1.heap[w.heap.size]? = some (.cells #[.bool false, .string ⟨#[]⟩, .int .i64 0] 54 (0, 0)) := (hB.block _ (by simp)).trans (heap_alloc_new _ _)
      have HBK := hide hblk
      have HB : Hid (Below w.heap.size w w1) := ((Below.refl w.heap.size w).alloc (Nat.le_refl _) _).trans (hB.mono (by simp))
      clear hB hblk hu
      go_wp2_with (first
        | (refine wpList_store_row rfl 54 _ _ rfl w.heap.size #[.bool false, .string ⟨#[]⟩, .int .i64 0] rfl rfl 54 _ (unhide HBK) Tryz.infoNd1 rfl (nd_all1 _ _ _) ?_)
        | fail)
      refine bodyPost_ret (results_row_tmp rfl _ _ w.heap.size _ #[.bool false, .string ⟨#[]⟩, .int .i64 0] (0, 0) _ rfl (setRow_heap _ _ _ _ _ _ (unhide HBK)) Tryz.underlying54 rfl Tryz.infoNd1) rfl ?_
      rw [unhide HV]
      exact ⟨labR_none, below_setRow (unhide HB) (Nat.le_refl _) _⟩
    | some o =>
      rw [hu] at HU HV
      go_enter Tryz.func71, Tryz.ntmps71
      go_wp2_with fail
      refine (unhide HU _).mono ?_
      rintro e w1 ⟨he, hB⟩
      have he' : e = .returned (.tuple #[.string (mk o), .bool true]) := he
      subst he'
      clear he
      have hblk : w1.heap[w.heap.size]? = some (.cells #[.bool false, .string ⟨#[]⟩, .int .i64 0] 54 (0, 0)) := (hB.block _ (by simp)).trans (heap_alloc_new _ _)
      have HBK := hide hblk
      have HB : Hid (Below w.heap.size w w1) := ((Below.refl w.heap.size w).alloc (Nat.le_refl _) _).trans (hB.mono (by simp))
      clear hB hblk hu
      go_wp2_with (first
        | (refine wpList_store_row rfl 54 _ _ rfl w.heap.size #[.bool false, .string (mk o), .int .i64 0] rfl rfl 54 _ (unhide HBK) Tryz.infoNd1 rfl (nd_all1 _ _ _) ?_)
        | fail)
      refine bodyPost_ret (results_row_tmp rfl _ _ w.heap.size _ #[.bool false, .string (mk o), .int .i64 0] (0, 0) _ rfl (setRow_heap _ _ _ _ _ _ (unhide HBK)) Tryz.underlying54 rfl Tryz.infoNd1) rfl ?_
      rw [unhide HV]
      exact ⟨labR_some _ _ _ rfl, below_setRow (unhide HB) (Nat.le_refl _) _⟩
  have h39' : ((s[0].toNat : Int) == 39) = false := u8_ne h39
  have HV : Hid (labV s.data.toList = none) := by show _ = _; rw [hD, labV, if_neg h64, if_neg h39]
  clear hD h64 h39 HX
  go_enter Tryz.func71, Tryz.ntmps71
  go_wp2_with fail
  refine bodyPost_ret (results_row_tmp rfl _ _ w.heap.size _ _ (0, 0) _ rfl (heap_alloc_new _ _) Tryz.underlying54 rfl Tryz.infoNd1) rfl ?_
  rw [unhide HV]
  exact ⟨labR_none, (Below.refl _ _).alloc (Nat.le_refl _) _⟩

end Go.Proofs.YtdaneedflpfeaabGreatDoor

namespace Go.Proofs.YtdaneedflpfeaabGreatDoor
set_option maxRecDepth 100000
open Go.RowKit

def numI (l : List UInt8) : Int := ((numV l).getD 0 : Nat)
theorem numI_bd (l : List UInt8) : 0 ≤ numI l ∧ numI l ≤ 999999 := by
  unfold numI
  cases h : numV l with
  | none => simp
  | some n => have := numV_bd h; simp; omega
theorem numR_eq (l : List UInt8) : numR (numV l) = .returned (.tuple #[.int .i64 (numI l), .bool (numV l).isSome]) := by unfold numI; cases numV l <;> rfl
/-- A step in memory. -/
abbrev stA (kd : ByteArray) (x y z : Int) (b : Bool) (t : ByteArray) : Array Value := #[.string kd, .int .i64 x, .int .i64 y, .int .i64 z, .bool b, .string t, .int .i64 0]
theorem Tryz.infoStep1 : (Tryz.prog.info? 68).map (·.size) = some 7 := by kernel_rfl
theorem st_all1 (kd : ByteArray) (x y z : Int) (b : Bool) (t : ByteArray) : ((stA kd x y z b t).all fun x => x.oneCell') = true := by simp [Value.oneCell']
theorem ret_step {cs ds : Array Value} {a b : Bool} (h1 : cs = ds) (h2 : a = b) : Ending.returned (.tuple #[.agg cs, .bool a]) = .returned (.tuple #[.agg ds, .bool b]) := by rw [h1, h2]

set_option maxHeartbeats 1600000 in
theorem readRename_any (a b : ByteArray) (w : World) (ha : a.size ≤ 1000000) (hb : b.size ≤ 1000000) :
    Calls Tryz.prog 49 #[.string a, .string b] w fun e w' => e = .returned (.tuple #[.agg (stA ⟨#[114]⟩ (numI a.data.toList) 0 0 (labB (labV b.data.toList)) (labT (labV b.data.toList))), .bool ((numV a.data.toList).isSome && (labV b.data.toList).isSome)]) ∧ Below w.heap.size w w' := by
  have HN : Hid (∀ wx, Calls Tryz.prog 70 #[.string a] wx fun e w' => e = .returned (.tuple #[.int .i64 (numI a.data.toList), .bool (numV a.data.toList).isSome]) ∧ w' = wx) := fun wx => by rw [← numR_eq]; exact readNumber_any a wx ha
  have HL : Hid (∀ wx, Calls Tryz.prog 71 #[.string b] wx fun e w' => e = .returned (.tuple #[.agg (ndA (labB (labV b.data.toList)) (labT (labV b.data.toList))), .bool (labV b.data.toList).isSome]) ∧ Below wx.heap.size wx w') := fun wx => readLabel_any b wx hb
  generalize numI a.data.toList = k at *
  generalize (numV a.data.toList).isSome = b1 at *
  generalize (labV b.data.toList).isSome = b2 at *
  generalize labB (labV b.data.toList) = li at *
  generalize labT (labV b.data.toList) = lt at *
  cases b1
  all_goals
    go_enter Tryz.func49, Tryz.ntmps49
    go_wp2_with fail
    refine (unhide HN _).mono ?_
    rintro e w1 ⟨rfl, hw⟩; have hw := hw.symm; subst hw
    go_wp2_with fail
    refine (unhide HL _).mono ?_
    rintro e w1 ⟨rfl, hB⟩
    have HBK : Hid (w1.heap[w.heap.size]? = some (.cells (stA ⟨#[]⟩ 0 0 0 false ⟨#[]⟩) 68 (0, 0))) := (hB.block _ (by simp)).trans (heap_alloc_new _ _)
    have HB : Hid (Below w.heap.size w w1) := ((Below.refl w.heap.size w).alloc (Nat.le_refl _) _).trans (hB.mono (by simp))
    have hlt : w.heap.size < w1.heap.size := by have := hB.size; simp at this; omega
    clear hB
    go_wp2_with (first
      | (refine wpList_store_row rfl 68 _ _ rfl w.heap.size (stA ⟨#[114]⟩ k 0 0 li lt) rfl rfl 68 _ ((heap_alloc_old _ _ hlt).trans (unhide HBK)) Tryz.infoStep1 rfl (st_all1 _ _ _ _ _ _) ?_)
      | fail)
    refine bodyPost_ret (results_row_tmp rfl _ _ w.heap.size _ (stA ⟨#[114]⟩ k 0 0 li lt) (0, 0) _ rfl (setRow_heap _ _ _ _ _ _ ((heap_alloc_old _ _ hlt).trans (unhide HBK))) Tryz.underlying68 rfl Tryz.infoStep1) rfl ?_
    exact ⟨ret_step rfl (by simp), below_setRow ((unhide HB).alloc (by omega) _) (Nat.le_refl _) _⟩

set_option maxHeartbeats 1600000 in
theorem readDelete_any (a : ByteArray) (w : World) (ha : a.size ≤ 1000000) :
    Calls Tryz.prog 50 #[.string a] w fun e w' => e = .returned (.tuple #[.agg (stA ⟨#[100]⟩ (numI a.data.toList) 0 0 false ⟨#[]⟩), .bool (numV a.data.toList).isSome]) ∧ Below w.heap.size w w' := by
  have HN : Hid (∀ wx, Calls Tryz.prog 70 #[.string a] wx fun e w' => e = .returned (.tuple #[.int .i64 (numI a.data.toList), .bool (numV a.data.toList).isSome]) ∧ w' = wx) := fun wx => by rw [← numR_eq]; exact readNumber_any a wx ha
  generalize numI a.data.toList = k at *
  generalize (numV a.data.toList).isSome = b1 at *
  go_enter Tryz.func50, Tryz.ntmps50
  go_wp2_with fail
  refine (unhide HN _).mono ?_
  rintro e w1 ⟨rfl, hw⟩; have hw := hw.symm; subst hw
  go_wp2_with (first
    | (refine wpList_store_row rfl 68 _ _ rfl w.heap.size (stA ⟨#[100]⟩ k 0 0 false ⟨#[]⟩) rfl rfl 68 _ (heap_alloc_new _ _) Tryz.infoStep1 rfl (st_all1 _ _ _ _ _ _) ?_)
    | fail)
  refine bodyPost_ret (results_row_tmp rfl _ _ w.heap.size _ (stA ⟨#[100]⟩ k 0 0 false ⟨#[]⟩) (0, 0) _ rfl (by first | exact setRow_heap _ _ _ _ _ _ (heap_alloc_new _ _) | exact heap_alloc_new _ _) Tryz.underlying68 rfl Tryz.infoStep1) rfl ?_
  first
    | exact ⟨rfl, below_setRow ((Below.refl w.heap.size w).alloc (Nat.le_refl _) _) (Nat.le_refl _) _⟩
    | exact ⟨rfl, (Below.refl w.heap.size w).alloc (Nat.le_refl _) _⟩

set_option maxHeartbeats 3200000 in
theorem readInsert_any (a b c d : ByteArray) (w : World) (ha : a.size ≤ 1000000) (hb : b.size ≤ 1000000) (hc : c.size ≤ 1000000) (hd : d.size ≤ 1000000) :
    Calls Tryz.prog 51 #[.string a, .string b, .string c, .string d] w fun e w' => e = .returned (.tuple #[.agg (stA ⟨#[105]⟩ (numI a.data.toList) (numI b.data.toList) (numI c.data.toList) (labB (labV d.data.toList)) (labT (labV d.data.toList))), .bool (((numV a.data.toList).isSome && (numV b.data.toList).isSome) && (numV c.data.toList).isSome && (labV d.data.toList).isSome)]) ∧ Below w.heap.size w w' := by
  have HNA : Hid (∀ wx, Calls Tryz.prog 70 #[.string a] wx fun e w' => e = .returned (.tuple #[.int .i64 (numI a.data.toList), .bool (numV a.data.toList).isSome]) ∧ w' = wx) := fun wx => by rw [← numR_eq]; exact readNumber_any a wx ha
  have HNB : Hid (∀ wx, Calls Tryz.prog 70 #[.string b] wx fun e w' => e = .returned (.tuple #[.int .i64 (numI b.data.toList), .bool (numV b.data.toList).isSome]) ∧ w' = wx) := fun wx => by rw [← numR_eq]; exact readNumber_any b wx hb
  have HNC : Hid (∀ wx, Calls Tryz.prog 70 #[.string c] wx fun e w' => e = .returned (.tuple #[.int .i64 (numI c.data.toList), .bool (numV c.data.toList).isSome]) ∧ w' = wx) := fun wx => by rw [← numR_eq]; exact readNumber_any c wx hc
  have HL : Hid (∀ wx, Calls Tryz.prog 71 #[.string d] wx fun e w' => e = .returned (.tuple #[.agg (ndA (labB (labV d.data.toList)) (labT (labV d.data.toList))), .bool (labV d.data.toList).isSome]) ∧ Below wx.heap.size wx w') := fun wx => readLabel_any d wx hd
  generalize numI a.data.toList = ka at *
  generalize numI b.data.toList = kb at *
  generalize numI c.data.toList = kc at *
  generalize (numV a.data.toList).isSome = b1 at *
  generalize (numV b.data.toList).isSome = b2 at *
  generalize (numV c.data.toList).isSome = b3 at *
  generalize (labV d.data.toList).isSome = b4 at *
  generalize labB (labV d.data.toList) = li at *
  generalize labT (labV d.data.toList) = lt at *
  go_enter Tryz.func51, Tryz.ntmps51
  go_wp2_with fail
  refine (unhide HNA _).mono ?_
  rintro e w1 ⟨rfl, hw⟩; have hw := hw.symm; subst hw
  go_wp2_with fail
  refine (unhide HNB _).mono ?_
  rintro e w1 ⟨rfl, hw⟩; have hw := hw.symm; subst hw
  go_wp2_with fail
  refine (unhide HNC _).mono ?_
  rintro e w1 ⟨rfl, hw⟩; have hw := hw.symm; subst hw
  go_wp2_with fail
  refine (unhide HL _).mono ?_
  rintro e w1 ⟨rfl, hB⟩
  have HBK : Hid (w1.heap[w.heap.size]? = some (.cells (stA ⟨#[]⟩ 0 0 0 false ⟨#[]⟩) 68 (0, 0))) := (hB.block _ (by simp)).trans (heap_alloc_new _ _)
  have HB : Hid (Below w.heap.size w w1) := ((Below.refl w.heap.size w).alloc (Nat.le_refl _) _).trans (hB.mono (by simp))
  have hlt : w.heap.size < w1.heap.size := by have := hB.size; simp at this; omega
  clear hB HNA HNB HNC HL
  cases b1 <;> cases b2 <;> cases b3
  all_goals
    go_wp2_with (first
      | (refine wpList_store_row rfl 68 _ _ rfl w.heap.size (stA ⟨#[105]⟩ ka kb kc li lt) rfl rfl 68 _ ((heap_alloc_old _ _ (by simp; omega)).trans ((heap_alloc_old _ _ hlt).trans (unhide HBK))) Tryz.infoStep1 rfl (st_all1 _ _ _ _ _ _) ?_)
      | fail)
    refine bodyPost_ret (results_row_tmp rfl _ _ w.heap.size _ (stA ⟨#[105]⟩ ka kb kc li lt) (0, 0) _ rfl (setRow_heap _ _ _ _ _ _ ((heap_alloc_old _ _ (by simp; omega)).trans ((heap_alloc_old _ _ hlt).trans (unhide HBK)))) Tryz.underlying68 rfl Tryz.infoStep1) rfl ?_
    exact ⟨ret_step rfl (by simp), below_setRow (((unhide HB).alloc (by omega) _).alloc (by simp; omega) _) (Nat.le_refl _) _⟩

end Go.Proofs.YtdaneedflpfeaabGreatDoor
