import Derived.Test.YtdaneedflpfeaaaShow1
namespace Go.Proofs.Ytdaneedflpfeaaa
set_option maxRecDepth 100000
open Go.RowKit

set_option maxHeartbeats 800000 in
theorem label_any (n : Nd) (w : World) (hs : n.text.size ≤ 1000000) :
    Calls Try.prog 35 #[.agg #[.bool n.inner, .string n.text, .int .i64 n.depth]] w fun e w' => e = .returned (.string (mk (labelL n))) ∧ Below w.heap.size w w' := by
  cases hi : n.inner with
  | true =>
    have HF : Hid ((⟨#[64]⟩ : ByteArray) ++ n.text = mk (labelL n)) := by show mk [64] ++ n.text = _; rw [cat_mk]; simp [labelL, hi]
    clear hi
    go_enter Try.func35, Try.ntmps35
    go_wp2_with fail
    go_ret
    exact ⟨ret_str (unhide HF), (Below.refl _ _).alloc (Nat.le_refl _) _⟩
  | false =>
    have HF : Hid (∀ e : ByteArray, e = mk (escL n.text.data.toList) → (⟨#[39]⟩ : ByteArray) ++ e = mk (labelL n)) := by
      intro e he; show mk [39] ++ e = _; rw [he, mk_append]; simp [labelL, hi]
    clear hi
    have hlen := escL_len n.text.data.toList
    have hl2 : n.text.data.toList.length = n.text.size := rfl
    go_enter Try.func35, Try.ntmps35
    go_wp2_with fail
    refine (escaped_any n.text _ hs).mono ?_
    rintro e w1 ⟨rfl, hB⟩
    have HB : Hid (Below w.heap.size w w1) := ((Below.refl w.heap.size w).alloc (Nat.le_refl _) _).trans (hB.mono (by simp))
    obtain ⟨eb, heb⟩ : ∃ eb, eb = mk (escL n.text.data.toList) := ⟨_, rfl⟩
    have hes : eb.size ≤ 4000000 := by rw [heb, mk_size]; omega
    rw [← heb]
    have HE := hide heb
    clear heb hB
    go_wp2_with fail
    go_ret
    exact ⟨ret_str (unhide HF eb (unhide HE)), unhide HB⟩

set_option maxHeartbeats 3200000 in
theorem written_any (l : List Nd) (base g cap : Nat) (w : World) (hl : l.length ≤ 1000000) (hm : Mod l) (hg : g < w.heap.size) (hown : w.ownsRow base 70 3 (.slice (some ⟨g, 0, none⟩) l.length cap) l.length (ndsCells l)) :
    Calls Try.prog 23 #[.slice (some ⟨g, 0, none⟩) l.length cap] w fun e w' => e = .returned (.string (mk (writtenL l))) ∧ Below w.heap.size w w' := by
  have HO := hide hown
  have HM := hide hm
  clear hown hm
  go_enter Try.func23, Try.ntmps23
  go_wp2_with fail
  go_loopw [3, 4, 5, 6, 9] (fun v d _ _ i wr => ∃ (k : Nat) (o : ByteArray), k ≤ l.length ∧ i = .int .i64 k ∧ v = .string o ∧ Hid (o = mk (wAcc (l.take k)).1) ∧ d = .int .i64 (wAcc (l.take k)).2.1 ∧ Below w.heap.size w wr) (fun _ _ _ _ i _ => l.length - (intOf i).toNat)
  case atStart => exact ⟨0, ⟨#[]⟩, Nat.zero_le _, rfl, rfl, rfl, rfl, Below.refl _ _⟩
  case round =>
    obtain ⟨k, o, hk, rfl, rfl, HOO, rfl, hB⟩ := hrel
    have HB := hide hB
    have hsz := hB.size
    have hgr : g < wr.heap.size := by omega
    have hop := wAcc_open ((unhide HM).take k)
    have hol : o.size ≤ 10000000000000 := by
      rw [unhide HOO, mk_size]; have := wAcc_len _ ((unhide HM).take k); have h2 : (l.take k).length ≤ k := List.length_take_le _ _; omega
    by_cases hlt : k < l.length
    · obtain ⟨x, hx⟩ : ∃ x, l[k]? = some x := ⟨_, List.getElem?_eq_getElem hlt⟩
      obtain ⟨x0, x1, x2⟩ := row_nd (row_keep (unhide HO) (hB.block g hg)) hx
      have hxm := unhide HM x (List.mem_of_getElem? hx)
      have HI : Hid (wAcc (l.take (k + 1)) = wStep (wAcc (l.take k)) x) := by show wAcc (l.take (k + 1)) = _; rw [take_snoc' l k x hx, wAcc_snoc]
      have HF : Hid ((wAcc (l.take k)).2.2 = decide (k = 0)) := by
        show (wAcc (l.take k)).2.2 = _
        rw [wAcc_first, Bool.eq_iff_iff]; simp; intro h; subst h; simp at hlt
      clear hB hx
      generalize hA : wAcc (l.take k) = A at *
      have HA := hide hA
      clear hA
      have hcl := fun wx => closing_any (A.2.1 - x.depth) wx (by omega)
      have hps0 : (mk (parens (A.2.1 - x.depth).toNat)).size ≤ 3000000 := by rw [mk_size, parens, List.length_replicate]; omega
      have HC := hide hcl
      clear hcl
      go_wp2_with fail
      refine (unhide HC _).mono ?_
      rintro e w1 ⟨rfl, hw⟩; have hw := hw.symm; subst hw
      obtain ⟨pb, hpb⟩ : ∃ pb, pb = mk (parens (A.2.1 - x.depth).toNat) := ⟨_, rfl⟩
      rw [← hpb] at hps0 ⊢
      have HPB := hide hpb
      clear hpb HC
      obtain ⟨lb, hlb⟩ : ∃ lb, lb = mk (labelL x) := ⟨_, rfl⟩
      have hls : lb.size ≤ 5000000 := by rw [hlb, mk_size]; have := labelL_len x hxm.2.2; omega
      have HLB := hide hlb
      have HLA : Hid (∀ w, Calls Try.prog 35 #[.agg #[.bool x.inner, .string x.text, .int .i64 x.depth]] w fun e w' => e = .returned (.string lb) ∧ Below w.heap.size w w') := fun w => by rw [hlb]; exact label_any x w hxm.2.2
      clear hlb
      have HFIN : Hid (∀ (c1 c2 : List UInt8), (if A.2.2 = true then [] else [32]) = c1 → (if x.inner = true then [40] else []) = c2 → o ++ pb ++ mk c1 ++ mk c2 ++ lb = mk (wStep A x).1) := by
        intro c1 c2 h1 h2
        rw [unhide HOO, unhide HPB, unhide HLB, mk_append, mk_append, mk_append, mk_append, ← h1, ← h2]
        rfl
      cases hin : x.inner with
      | true =>
        rw [hin] at x0 HLA
        by_cases hk0 : k = 0
        · subst hk0
          have HW : Hid (mk (wStep A x).1 = (o ++ pb ++ ⟨#[40]⟩) ++ lb) := by
            show mk (wStep A x).1 = _
            have hfin := unhide HFIN [] [40] (by rw [unhide HF]; simp) (by simp [hin])
            try simp only [cat_nil] at hfin
            exact hfin.symm
          have HD : Hid ((wStep A x).2.1 = x.depth + 1) := by show (wStep A x).2.1 = _; simp [wStep, hin]
          clear hin
          go_wp2_with fail
          refine (unhide HLA _).mono ?_
          rintro e w1 ⟨rfl, hB1⟩
          have HB1 : Hid (Below w.heap.size w w1) := ((unhide HB).alloc hsz _).trans (hB1.mono (by simp; omega))
          clear hB1
          go_wp2_with fail
          go_roundw
          case rel => exact ⟨0 + 1, _, by omega, by go_num, rfl, by rw [unhide HI, unhide HW]; rfl, by rw [unhide HI, unhide HD], unhide HB1⟩
          case measure => simp [intOf]; omega
        · have hk1 : (0 : Int) < (k : Int) := by omega
          have HW : Hid (mk (wStep A x).1 = ((o ++ pb ++ ⟨#[32]⟩) ++ ⟨#[40]⟩) ++ lb) := by
            show mk (wStep A x).1 = _
            have hfin := unhide HFIN [32] [40] (by rw [unhide HF]; simp [hk0]) (by simp [hin])
            try simp only [cat_nil] at hfin
            exact hfin.symm
          have HD : Hid ((wStep A x).2.1 = x.depth + 1) := by show (wStep A x).2.1 = _; simp [wStep, hin]
          clear hin
          go_wp2_with fail
          refine (unhide HLA _).mono ?_
          rintro e w1 ⟨rfl, hB1⟩
          have HB1 : Hid (Below w.heap.size w w1) := ((unhide HB).alloc hsz _).trans (hB1.mono (by simp; omega))
          clear hB1
          go_wp2_with fail
          go_roundw
          case rel => exact ⟨k + 1, _, by omega, by go_num, rfl, by rw [unhide HI, unhide HW]; rfl, by rw [unhide HI, unhide HD], unhide HB1⟩
          case measure => simp [intOf]; omega
      | false =>
        rw [hin] at x0 HLA
        by_cases hk0 : k = 0
        · subst hk0
          have HW : Hid (mk (wStep A x).1 = o ++ pb ++ lb) := by
            show mk (wStep A x).1 = _
            have hfin := unhide HFIN [] [] (by rw [unhide HF]; simp) (by simp [hin])
            try simp only [cat_nil] at hfin
            exact hfin.symm
          have HD : Hid ((wStep A x).2.1 = x.depth) := by show (wStep A x).2.1 = _; simp [wStep, hin]
          clear hin
          go_wp2_with fail
          refine (unhide HLA _).mono ?_
          rintro e w1 ⟨rfl, hB1⟩
          have HB1 : Hid (Below w.heap.size w w1) := ((unhide HB).alloc hsz _).trans (hB1.mono (by simp; omega))
          clear hB1
          go_wp2_with fail
          go_roundw
          case rel => exact ⟨0 + 1, _, by omega, by go_num, rfl, by rw [unhide HI, unhide HW]; rfl, by rw [unhide HI, unhide HD], unhide HB1⟩
          case measure => simp [intOf]; omega
        · have hk1 : (0 : Int) < (k : Int) := by omega
          have HW : Hid (mk (wStep A x).1 = (o ++ pb ++ ⟨#[32]⟩) ++ lb) := by
            show mk (wStep A x).1 = _
            have hfin := unhide HFIN [32] [] (by rw [unhide HF]; simp [hk0]) (by simp [hin])
            try simp only [cat_nil] at hfin
            exact hfin.symm
          have HD : Hid ((wStep A x).2.1 = x.depth) := by show (wStep A x).2.1 = _; simp [wStep, hin]
          clear hin
          go_wp2_with fail
          refine (unhide HLA _).mono ?_
          rintro e w1 ⟨rfl, hB1⟩
          have HB1 : Hid (Below w.heap.size w w1) := ((unhide HB).alloc hsz _).trans (hB1.mono (by simp; omega))
          clear hB1
          go_wp2_with fail
          go_roundw
          case rel => exact ⟨k + 1, _, by omega, by go_num, rfl, by rw [unhide HI, unhide HW]; rfl, by rw [unhide HI, unhide HD], unhide HB1⟩
          case measure => simp [intOf]; omega
    · have HT : Hid (l.take k = l) := List.take_of_length_le (by omega)
      rw [unhide HT] at hop HOO
      have hps0 : (mk (parens (wAcc l).2.1.toNat)).size ≤ 3000000 := by rw [mk_size, parens, List.length_replicate]; omega
      have HC := hide (fun wx => closing_any (wAcc l).2.1 wx (by omega))
      have HW : Hid (writtenL l = (wAcc l).1 ++ parens (wAcc l).2.1.toNat) := rfl
      rw [unhide HT]
      generalize wAcc l = A at *
      clear hB
      go_wp2_with fail
      refine (unhide HC _).mono ?_
      rintro e w1 ⟨rfl, hw⟩; have hw := hw.symm; subst hw
      obtain ⟨pb, hpb⟩ : ∃ pb, pb = mk (parens A.2.1.toNat) := ⟨_, rfl⟩
      rw [← hpb] at hps0 ⊢
      have HPB := hide hpb
      clear hpb HC
      go_wp2_with fail
      go_ret
      exact ⟨ret_str (by rw [unhide HW, unhide HOO, unhide HPB, mk_append]), unhide HB⟩

end Go.Proofs.Ytdaneedflpfeaaa
