import Derived.Test.YtabafeckdclekaaGreatDoorRefQ1
namespace Go.Proofs.YtabafeckdclekaaGreatDoor
set_option maxRecDepth 100000
open Go.RowKit

def leafR (l : List Rw) : List UInt8 := l.flatMap fun x => if x.inner then [] else x.text.data.toList
theorem leafR_snoc (l : List Rw) (x : Rw) : leafR (l ++ [x]) = leafR l ++ (if x.inner then [] else x.text.data.toList) := by simp [leafR]

set_option maxHeartbeats 3200000 in
theorem refPrint_any (l : List Rw) (g cap : Nat) (w : World) (hl : l.length ≤ 100000) (ht : ∀ x ∈ l, x.text.size ≤ 10000) (hn : RA w g 0 l) :
    Calls Tryz.prog 13 #[.slice (some ⟨g, 0, none⟩) l.length cap] w fun e w' => e = .returned (.string (mk (leafR l))) ∧ Below w.heap.size w w' := by
  have HN := hide hn
  have HT := hide ht
  have hgl := hn.lt
  clear hn ht
  go_enter Tryz.func13, Tryz.ntmps13
  go_wp2_with fail
  go_loopw [3, 5, 8] (fun v _ i wr => ∃ (k : Nat) (o : ByteArray), k ≤ l.length ∧ i = .int .i64 k ∧ v = .string o ∧ Hid (o = mk (leafR (l.take k))) ∧ o.size ≤ k * 10000 ∧ Below w.heap.size w wr) (fun _ _ i _ => l.length - (intOf i).toNat)
  case atStart => exact ⟨0, ⟨#[]⟩, Nat.zero_le _, rfl, rfl, rfl, Nat.le_refl _, Below.refl _ _⟩
  case round =>
    obtain ⟨k, o, hk, rfl, rfl, HO, hos, hB⟩ := hrel
    have HB := hide hB
    have hsz := hB.size
    have hgr : g < wr.heap.size := by omega
    have hna := (unhide HN).below hB hgl
    by_cases hlt : k < l.length
    · have hx : l[k]? = some l[k] := List.getElem?_eq_getElem hlt
      obtain ⟨x0, x1, x2⟩ := hna.cell0 hx
      have hxt := unhide HT _ (List.getElem_mem hlt)
      have HI : Hid (leafR (l.take (k + 1)) = leafR (l.take k) ++ (if (l[k]'hlt).inner then [] else (l[k]'hlt).text.data.toList)) := by show _ = _; rw [List.take_succ_eq_append_getElem hlt, leafR_snoc]
      clear hna hB hx
      generalize (l[k]'hlt) = x at *
      cases hin : x.inner with
      | true =>
        rw [hin] at x1
        have HO2 : Hid (o = mk (leafR (l.take (k + 1)))) := by show o = _; rw [unhide HI, hin, unhide HO]; simp
        clear hin
        go_wp2_with fail
        go_roundw
        case rel => exact ⟨k + 1, o, by omega, by go_num, rfl, HO2, by omega, (unhide HB).alloc hsz _⟩
        case measure => simp [intOf]; omega
      | false =>
        rw [hin] at x1
        have HO2 : Hid (o ++ x.text = mk (leafR (l.take (k + 1)))) := by show _ = _; rw [unhide HI, hin, unhide HO, cat_mk]; rfl
        clear hin
        go_wp2_with fail
        go_roundw
        case rel => exact ⟨k + 1, _, by omega, by go_num, rfl, HO2, by rw [ByteArray.size_append]; omega, (unhide HB).alloc hsz _⟩
        case measure => simp [intOf]; omega
    · have HTK : Hid (l.take k = l) := List.take_of_length_le (by omega)
      clear hna hB
      go_wp2_with fail
      go_ret
      exact ⟨ret_str (by rw [unhide HO, unhide HTK]), unhide HB⟩

theorem splitL_sep (c : UInt8) (l : List UInt8) : splitL c (l ++ [c]) = splitL c l ++ [[]] := by
  induction l with
  | nil => simp [splitL]
  | cons x l ih =>
    rw [List.cons_append, splitL, splitL, ih]
    split
    · rfl
    · cases h : splitL c l with
      | nil => have := (splitL_len c l).1; rw [h] at this; simp at this
      | cons a r => rfl
theorem splitL_add {c x : UInt8} (hx : x ≠ c) (l : List UInt8) : ∀ (I : List (List UInt8)) (t : List UInt8), splitL c l = I ++ [t] → splitL c (l ++ [x]) = I ++ [t ++ [x]] := by
  induction l with
  | nil =>
    intro I t h
    simp only [splitL] at h
    cases I with
    | nil => simp at h; subst h; simp [splitL, hx]
    | cons a r => simp at h
  | cons y l ih =>
    intro I t h
    rw [List.cons_append, splitL]
    rw [splitL] at h
    split
    · rename_i e
      rw [if_pos e] at h
      cases I with
      | nil => simp at h; have := (splitL_len c l).1; rw [h.2] at this; simp at this
      | cons a r =>
        simp only [List.cons_append, List.cons.injEq] at h
        rw [ih r t h.2, ← h.1]; rfl
    · rename_i e
      rw [if_neg e] at h
      cases hs : splitL c l with
      | nil => have := (splitL_len c l).1; rw [hs] at this; simp at this
      | cons a r =>
        rw [hs] at h
        simp only at h
        cases I with
        | nil =>
          simp only [List.nil_append, List.cons.injEq] at h
          obtain ⟨h1, h2⟩ := h
          subst h1 h2
          rw [ih [] a (by rw [hs]; rfl)]; rfl
        | cons b r2 =>
          simp only [List.cons_append, List.cons.injEq] at h
          obtain ⟨h1, h2⟩ := h
          subst h1
          rw [ih (a :: r2) t (by rw [hs, h2]; rfl)]; rfl
theorem strs_set (I : List (List UInt8)) (t t2 : List UInt8) (x : ByteArray) (hx : x = mk t2) : (strsV (I ++ [t])).set I.length (.string x) = strsV (I ++ [t2]) := by
  rw [strsV_append, strsV_append]
  have e : I.length = (strsV I).length := by simp [strsV]
  rw [e, List.set_append_right _ _ (Nat.le_refl _), Nat.sub_self, hx]; rfl
theorem own_frzS {w : World} {base g cap n : Nat} {xs : List Value} (h : w.ownsRow base 9 1 (.slice (some ⟨g, 0, none⟩) n cap) n xs) : ∀ j, w.frozen? ⟨g, j, none⟩ = false := by
  rcases h.2 with ⟨h0, _⟩ | ⟨g', cap', cur, hv, _, hb, _⟩
  · cases h0
  · simp only [Value.slice.injEq, Option.some.injEq, Addr.mk.injEq, and_true, true_and] at hv
    obtain ⟨rfl, _⟩ := hv
    exact fun j => frozen_of_row w _ j _ _ hb

set_option maxHeartbeats 3200000 in
theorem cut_any (s : ByteArray) (c : UInt8) (w : World) (hs : s.size ≤ 1000000) :
    Calls Tryz.prog 11 #[.string s, .int .u8 (c.toNat : Int)] w fun e w' => Below w.heap.size w w' ∧ ∃ g cap, e = .returned (.slice (some ⟨g, 0, none⟩) (splitL c s.data.toList).length cap) ∧ g < w'.heap.size ∧ w'.ownsRow w.heap.size 9 1 (.slice (some ⟨g, 0, none⟩) (splitL c s.data.toList).length cap) (splitL c s.data.toList).length (strsV (splitL c s.data.toList)) := by
  obtain ⟨i0, hi, hz0, hz1, hz2⟩ := info_parts Tryz.infoStr
  have HNEW : Hid ((w.alloc (.cells #[.string ⟨#[]⟩] 9 (0, 0))).ownsRow w.heap.size 9 1 (.slice (some ⟨w.heap.size, 0, none⟩) 1 1) 1 (strsV [[]])) := ⟨rfl, .inr ⟨w.heap.size, 1, #[.string ⟨#[]⟩], rfl, Nat.le_refl _, heap_alloc_new _ _, Nat.le_refl _, by unfold maxLen; omega, rfl, rfl⟩⟩
  go_enter Tryz.func11, Tryz.ntmps11
  go_wp2_with fail
  go_loopw [5, 6] (fun v i wr => ∃ (k g cap : Nat) (I : List (List UInt8)) (t : List UInt8), k ≤ s.size ∧ I.length ≤ k ∧ t.length ≤ k ∧ i = .int .i64 k ∧ v = .slice (some ⟨g, 0, none⟩) (I.length + 1) cap ∧ g < wr.heap.size ∧ wr.ownsRow w.heap.size 9 1 (.slice (some ⟨g, 0, none⟩) (I.length + 1) cap) (I.length + 1) (strsV (I ++ [t])) ∧ Hid (splitL c (s.data.toList.take k) = I ++ [t]) ∧ Below w.heap.size w wr) (fun _ i _ => s.size - (intOf i).toNat)
  case atStart => exact ⟨0, w.heap.size, 1, [], [], Nat.zero_le _, Nat.le_refl _, Nat.le_refl _, rfl, rfl, by simp, unhide HNEW, rfl, (Below.refl _ _).alloc (Nat.le_refl _) _⟩
  case round =>
    obtain ⟨k, g, cap, I, t, hk, hI, ht, rfl, rfl, hg, hown, HE, hB⟩ := hrel
    have HO := hide hown
    have HB := hide hB
    have hsz := hB.size
    by_cases hlt : k < s.size
    · have HT := hide (take_snocB s k hlt)
      by_cases hc : s[k] = c
      · have hc' : ((s[k].toNat : Int) == (c.toNat : Int)) = true := by rw [hc]; simp
        have HE2 : Hid (splitL c (s.data.toList.take (k + 1)) = (I ++ [t]) ++ [[]]) := by show _ = _; rw [unhide HT, hc, splitL_sep, unhide HE]
        have hlI : (I ++ [t]).length = I.length + 1 := by simp
        have HLI := hide hlI
        clear hown hB hc hlI HE
        generalize I ++ [t] = IT at *
        go_wp2_with (first
          | (at_builtin; refine wpList_append_lies _ rfl (.tmp 19) (.tmp 20) 36 rfl w.heap.size 9 i0 (.string ⟨#[]⟩) 1 16 Tryz.underlying36 hi hz0 hz1 hz2 rfl (by decide) _ (I.length + 1) (strsV IT) rfl ((unhide HO).alloc _) ⟨wr.heap.size, 0, none⟩ 1 1 [.string ⟨#[]⟩] rfl rfl (news_of (heap_alloc_new _ _)) (by intro u hu; simp at hu; subst hu; rfl) (by decide) (by unfold maxLen; omega) (by omega) (by simp; omega) _ rfl ?_)
          | fail)
        intro g2 cap2 w2 hown2 hgrow _ hlt2
        have HB2 : Hid (Below w.heap.size w w2) := ((unhide HB).alloc hsz _).grown hgrow (by simp; omega) (fun j hj => ((unhide HO).lt j hj).1)
        have HO2 := hide hown2
        clear hown2 hgrow HO HB
        go_wp2_with fail
        go_roundw
        case rel => exact ⟨k + 1, g2, cap2, IT, [], by omega, by rw [unhide HLI]; omega, Nat.zero_le _, by go_num, by rw [unhide HLI], hlt2, by rw [strsV_append, unhide HLI]; exact unhide HO2, HE2, unhide HB2⟩
        case measure => simp [intOf]; omega
      · have hc' : ((s[k].toNat : Int) == (c.toNat : Int)) = false := u8_ne hc
        have HE2 : Hid (splitL c (s.data.toList.take (k + 1)) = I ++ [t ++ [s[k]]]) := by show _ = _; rw [unhide HT]; exact splitL_add hc _ _ _ (unhide HE)
        have hcell : wr.cell? ⟨g, I.length, none⟩ = some (.string (mk t)) := by
          rw [hown.cellAt I.length (by omega)]
          rw [strsV_append, List.getElem?_append_right (by simp [strsV])]; simp [strsV]
        have hfz := own_frzS hown
        have hts : (mk t).size ≤ 1000000 := by rw [mk_size]; omega
        have HX : Hid (mk t ++ s.extract k (k + 1) = mk (t ++ [s[k]])) := by
          show _ = _
          rw [ext_mk, mk_append, drop_at hlt]; simp
        have HST : Hid (∀ x, x = mk (t ++ [s[k]]) → (wr.setCell ⟨g, I.length, none⟩ (.string x)).ownsRow w.heap.size 9 1 (.slice (some ⟨g, 0, none⟩) (I.length + 1) cap) (I.length + 1) (strsV (I ++ [t ++ [s[k]]]))) := fun x hx => by
          rw [← strs_set I t _ x hx]; exact ((unhide HO).stored I.length (.string x)).1
        have hbg := (hown.lt g rfl).1
        have hw1 : IntKind.i64.wrap ((k : Int) + 1) = (k : Int) + 1 := IntWalk.i64_in _ (by omega)
        have hw2 : IntKind.i64.wrap (I.length : Int) = (I.length : Int) := IntWalk.i64_in _ (by omega)
        have hw3 : IntKind.i64.wrap ((I.length : Int) + 1 - 1) = (I.length : Int) := by rw [Int.add_sub_cancel]; exact hw2
        have he1 : (s.extract k (k + 1)).size ≤ 1 := by rw [ByteArray.size_extract]; omega
        clear hown hB hc HE
        generalize mk t = tb at *
        go_wp2_with fail
        go_region
        all_goals go_wp2_with fail
        all_goals go_roundw
        all_goals first
          | (case measure => simp [intOf]; omega)
          | skip
        all_goals exact ⟨k + 1, g, cap, I, t ++ [s[k]], by omega, by omega, by rw [List.length_append]; simp; omega, by go_num, rfl, by simp; omega, (unhide HST _ (unhide HX)).drew, HE2, ((unhide HB).setCell (p := ⟨g, I.length, none⟩) hbg _).drew⟩
    · have HTK : Hid (splitL c s.data.toList = I ++ [t]) := by
        show _ = _
        have := unhide HE
        rwa [List.take_of_length_le (by show s.size ≤ k; omega)] at this
      clear hown hB HE
      go_wp2_with fail
      go_ret
      refine ⟨unhide HB, g, cap, ?_, hg, ?_⟩
      · rw [unhide HTK, List.length_append]; rfl
      · rw [unhide HTK, List.length_append]; exact unhide HO

end Go.Proofs.YtabafeckdclekaaGreatDoor
