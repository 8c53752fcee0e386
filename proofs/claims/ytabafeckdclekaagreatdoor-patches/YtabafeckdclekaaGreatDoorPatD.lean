import Derived.Test.YtabafeckdclekaaGreatDoorPatC
import Derived.Laws.ResultCell
namespace Go.Proofs.YtabafeckdclekaaGreatDoor
set_option maxRecDepth 100000
open Go.RowKit

/-! ## Words -/
/-- A text at a byte. -/
def splitL (c : UInt8) : List UInt8 → List (List UInt8)
  | [] => [[]]
  | x :: t => if x = c then [] :: splitL c t else match splitL c t with
    | [] => [[x]]
    | h :: r => (x :: h) :: r
theorem splitL_none {c : UInt8} (l : List UInt8) (h : ∀ x ∈ l, x ≠ c) : splitL c l = [l] := by
  induction l with
  | nil => rfl
  | cons x l ih => rw [splitL, if_neg (h x (by simp)), ih (fun y hy => h y (by simp [hy]))]
theorem splitL_at {c : UInt8} (l m : List UInt8) (h : ∀ x ∈ l, x ≠ c) : splitL c (l ++ c :: m) = l :: splitL c m := by
  induction l with
  | nil => rw [List.nil_append, splitL, if_pos rfl]
  | cons x l ih => rw [List.cons_append, splitL, if_neg (h x (by simp)), ih (fun y hy => h y (by simp [hy]))]
theorem splitL_len (c : UInt8) (l : List UInt8) : 1 ≤ (splitL c l).length ∧ (splitL c l).length ≤ l.length + 1 := by
  induction l with
  | nil => simp [splitL]
  | cons x l ih =>
    rw [splitL]
    split
    · simp only [List.length_cons]; omega
    · split
      · simp
      · rename_i h r e
        rw [e] at ih
        simp only [List.length_cons] at ih ⊢; omega
theorem splitL_size (c : UInt8) (l : List UInt8) : ∀ x ∈ splitL c l, x.length ≤ l.length := by
  induction l with
  | nil => intro x hx; simp [splitL] at hx; subst hx; simp
  | cons y l ih =>
    intro x hx
    rw [splitL] at hx
    split at hx
    · rcases List.mem_cons.1 hx with rfl | hx
      · simp
      · have := ih x hx; simp only [List.length_cons]; omega
    · split at hx
      · simp at hx; subst hx; simp
      · rename_i h r e
        rw [e] at ih
        rcases List.mem_cons.1 hx with rfl | hx
        · have := ih h (by simp); simp only [List.length_cons]; omega
        · have := ih x (by simp [hx]); simp only [List.length_cons]; omega
/-- Texts in memory. -/
def strsV (l : List (List UInt8)) : List Value := l.map fun x => .string (mk x)
theorem strsV_append (l m : List (List UInt8)) : strsV (l ++ m) = strsV l ++ strsV m := by simp [strsV]
theorem Tryz.infoStr : (Tryz.prog.info? 9).map (fun i => (i.zero, i.size, i.bytes)) = some (some (.string ⟨#[]⟩), 1, 16) := by kernel_rfl
theorem ext_mk (s : ByteArray) (a b : Nat) : s.extract a b = mk ((s.data.toList.drop a).take (b - a)) := by
  apply str_eq
  rw [Go.Lib.extract_toList, mk_toList]
theorem seg_at {s : ByteArray} {f k : Nat} (hf : f ≤ k) (hk : k < s.size) : s.data.toList.drop f = (s.data.toList.drop f).take (k - f) ++ s[k] :: s.data.toList.drop (k + 1) := by
  have h1 := (List.take_append_drop (k - f) (s.data.toList.drop f)).symm
  rw [List.drop_drop, show f + (k - f) = k from by omega, drop_at hk] at h1
  exact h1
theorem seg_mem {s : ByteArray} {f k : Nat} {c : UInt8} (h : ∀ j (hj : j < s.size), f ≤ j → j < k → s[j] ≠ c) : ∀ x ∈ (s.data.toList.drop f).take (k - f), x ≠ c := by
  intro x hx
  obtain ⟨j, hj, rfl⟩ := List.mem_iff_getElem.1 hx
  have hj' : j < k - f ∧ j < s.size - f := by
    simp only [List.length_take, List.length_drop] at hj
    have h2 : s.data.toList.length = s.size := rfl
    omega
  have := h (f + j) (by omega) (by omega) (by omega)
  simp only [List.getElem_take, List.getElem_drop]
  exact this

set_option maxHeartbeats 1600000 in
theorem words_any (s : ByteArray) (w : World) (hs : s.size ≤ 1000000) :
    Calls Tryz.prog 37 #[.string s] w fun e w' => Below w.heap.size w w' ∧ ∃ v, e = .returned v ∧ w'.ownsRow w.heap.size 9 1 v (splitL 32 s.data.toList).length (strsV (splitL 32 s.data.toList)) := by
  obtain ⟨i0, hi, hz0, hz1, hz2⟩ := info_parts Tryz.infoStr
  go_enter Tryz.func37, Tryz.ntmps37
  go_wp2_with fail
  go_loopw [3, 4, 5] (fun v f i wr => ∃ (k n : Nat) (L : List (List UInt8)), k ≤ s.size ∧ n ≤ k ∧ L.length ≤ n ∧ i = .int .i64 k ∧ f = .int .i64 n ∧ wr.ownsRow w.heap.size 9 1 v L.length (strsV L) ∧ Hid (splitL 32 s.data.toList = L ++ splitL 32 (s.data.toList.drop n)) ∧ Hid (∀ j (hj : j < s.size), n ≤ j → j < k → s[j] ≠ 32) ∧ Below w.heap.size w wr) (fun _ _ i _ => s.size - (intOf i).toNat)
  case atStart => exact ⟨0, 0, [], Nat.zero_le _, Nat.le_refl _, Nat.le_refl _, rfl, rfl, World.ownsRow_nil _ _ _ _, by show _ = _; rw [List.drop_zero]; rfl, fun j hj h1 h2 => by omega, Below.refl _ _⟩
  case round =>
    obtain ⟨k, n, L, hk, hn, hL, rfl, rfl, hown, HE, HNO, hB⟩ := hrel
    have HO := hide hown
    have HB := hide hB
    have hsz := hB.size
    clear hown hB
    by_cases hlt : k < s.size
    · by_cases h32 : s[k] = 32
      · have h32' : ((s[k].toNat : Int) == 32) = true := by rw [h32]; rfl
        have HE2 : Hid (splitL 32 s.data.toList = (L ++ [(s.data.toList.drop n).take (k - n)]) ++ splitL 32 (s.data.toList.drop (k + 1))) := by
          show _ = _
          rw [unhide HE, List.append_assoc]; congr 1
          have h1 := seg_at hn hlt
          rw [h32] at h1
          rw [h1, splitL_at _ _ (seg_mem (unhide HNO)), ← h1]; rfl
        have HX := hide (ext_mk s n k)
        clear h32 HE HNO
        go_wp2_with (first
          | (at_builtin; refine wpList_append_lies _ rfl (.tmp 16) (.tmp 21) 36 rfl w.heap.size 9 i0 (.string ⟨#[]⟩) 1 16 Tryz.underlying36 hi hz0 hz1 hz2 rfl (by decide) _ L.length (strsV L) rfl ((unhide HO).alloc _) ⟨wr.heap.size, 0, none⟩ 1 1 [.string (s.extract n k)] rfl rfl (news_of (heap_alloc_new _ _)) (by intro u hu; simp at hu; subst hu; rfl) (by decide) (by unfold maxLen; omega) (by omega) (by simp; omega) _ rfl ?_)
          | fail)
        intro g cap w2 hown2 hgrow _ hlt2
        have hB2 : Below w.heap.size w w2 := ((unhide HB).alloc hsz _).grown hgrow (by simp; omega) (fun j hj => ((unhide HO).lt j hj).1)
        have HB2 := hide hB2
        have HO2 := hide hown2
        clear hown2 hgrow hB2 HO HB
        go_wp2_with fail
        go_roundw
        case rel => exact ⟨k + 1, k + 1, L ++ [(s.data.toList.drop n).take (k - n)], by omega, by omega, by simp; omega, by go_num, by go_num, by rw [strsV_append, List.length_append, strsV, strsV, List.map_singleton, ← unhide HX]; exact unhide HO2, HE2, fun j hj h1 h2 => by omega, unhide HB2⟩
        case measure => simp [intOf]; omega
      · have h32' : ((s[k].toNat : Int) == 32) = false := u8_ne h32
        have HNO2 : Hid (∀ j (hj : j < s.size), n ≤ j → j < k + 1 → s[j] ≠ 32) := fun j hj h1 h2 => by
          rcases Nat.lt_or_ge j k with g | g
          · exact unhide HNO j hj h1 g
          · have : j = k := by omega
            subst this; exact h32
        clear HNO h32
        go_wp2_with fail
        go_roundw
        case rel => exact ⟨k + 1, n, L, by omega, by omega, hL, by go_num, rfl, unhide HO, HE, HNO2, unhide HB⟩
        case measure => simp [intOf]; omega
    · have HE2 : Hid (splitL 32 s.data.toList = L ++ [s.data.toList.drop n]) := by
        show _ = _
        rw [unhide HE]; congr 1
        have hm := seg_mem (unhide HNO)
        rw [List.take_of_length_le (by rw [List.length_drop]; show s.size - n ≤ _; omega)] at hm
        exact splitL_none _ hm
      have HX : Hid (s.extract n s.size = mk (s.data.toList.drop n)) := by
        show _ = _
        rw [ext_mk, List.take_of_length_le (by rw [List.length_drop]; exact Nat.le_refl _)]
      clear HE HNO
      go_wp2_with (first
        | (at_builtin; refine wpList_append_lies _ rfl (.tmp 25) (.tmp 29) 36 rfl w.heap.size 9 i0 (.string ⟨#[]⟩) 1 16 Tryz.underlying36 hi hz0 hz1 hz2 rfl (by decide) _ L.length (strsV L) rfl ((unhide HO).alloc _) ⟨wr.heap.size, 0, none⟩ 1 1 [.string (s.extract n s.size)] rfl rfl (news_of (heap_alloc_new _ _)) (by intro u hu; simp at hu; subst hu; rfl) (by decide) (by unfold maxLen; omega) (by omega) (by simp; omega) _ rfl ?_)
        | fail)
      intro g cap w2 hown2 hgrow _ hlt2
      have hB2 : Below w.heap.size w w2 := ((unhide HB).alloc hsz _).grown hgrow (by simp; omega) (fun j hj => ((unhide HO).lt j hj).1)
      have HB2 := hide hB2
      have HO2 := hide hown2
      clear hown2 hgrow hB2 HO HB
      go_wp2_with fail
      go_ret
      refine ⟨unhide HB2, _, rfl, ?_⟩
      rw [unhide HE2, strsV_append, List.length_append, strsV, strsV, List.map_singleton, ← unhide HX]
      exact unhide HO2

end Go.Proofs.YtabafeckdclekaaGreatDoor
