import Derived.Test.YtdaneedflpfeaabGreatDoorStr
import Derived.Test.YtdaneedflpfeaabGreatDoorRead
import Derived.Test.YtdaneedflpfeaabGreatDoorOut
namespace Go.Proofs.YtdaneedflpfeaabGreatDoor
set_option maxRecDepth 100000
open Go.RowKit

set_option maxHeartbeats 800000 in
theorem closing_any (c : Int) (w : World) (hc : c ≤ 10000000) :
    Calls Tryz.prog 22 #[.int .i64 c] w fun e w' => e = .returned (.string (mk (parens c.toNat))) ∧ w' = w := by
  go_enter Tryz.func22, Tryz.ntmps22
  go_wp2_with fail
  go_loop [3, 4] (fun v i => ∃ (k : Nat) (o : ByteArray), (k ≤ c.toNat) ∧ i = .int .i64 k ∧ v = .string o ∧ Hid (o = mk (parens k)) ∧ o.size = k) (fun _ i => c.toNat - (intOf i).toNat)
  case atStart => exact ⟨0, ⟨#[]⟩, Nat.zero_le _, rfl, rfl, rfl, rfl⟩
  case round =>
    obtain ⟨k, o, hk, rfl, rfl, HO, hsz⟩ := hrel
    have HZ := hide hsz
    have hle : o.size ≤ 10000000 := by omega
    clear hsz
    by_cases hlt : (k : Int) < c
    · go_wp2_with fail
      go_round
      case rel =>
        refine ⟨k + 1, o ++ ⟨#[41]⟩, by omega, by go_num, rfl, ?_, ?_⟩
        · show o ++ mk [41] = _
          rw [unhide HO, mk_append, parens, parens, List.replicate_succ']
        · rw [ByteArray.size_append, unhide HZ]; rfl
      case measure => simp [intOf]; omega
    · have hkc : Hid (k = c.toNat) := by show k = c.toNat; omega
      go_wp2_with fail
      go_ret
      exact ⟨ret_str (by rw [unhide HO, unhide hkc]), rfl⟩

set_option maxHeartbeats 1600000 in
set_option maxRecDepth 100000 in
theorem escaped_any (s : ByteArray) (w : World) (hs : s.size ≤ 1000000) :
    Calls Tryz.prog 39 #[.string s] w fun e w' => e = .returned (.string (mk (escL s.data.toList))) ∧ Below w.heap.size w w' := by
  obtain ⟨i0, hi, hz0, hz1, hz2⟩ := info_parts Tryz.infoU8
  go_enter Tryz.func39, Tryz.ntmps39
  go_wp2_with fail
  go_loopw [3, 4, 5] (fun v i _ wr => ∃ k : Nat, k ≤ s.size ∧ i = .int .i64 k ∧ wr.ownsRow w.heap.size 5 1 v (escL (s.data.toList.take k)).length (u8s (escL (s.data.toList.take k))) ∧ Below w.heap.size w wr) (fun _ i _ _ => s.size - (intOf i).toNat)
  case atStart => exact ⟨0, Nat.zero_le _, rfl, World.ownsRow_nil _ _ _ _, Below.refl _ _⟩
  case round =>
    obtain ⟨k, hk, rfl, hown, hB⟩ := hrel
    have hel := escL_len (s.data.toList.take k)
    have hel2 : (s.data.toList.take k).length ≤ k := List.length_take_le _ _
    have HO := hide hown
    have HB := hide hB
    have hsz := hB.size
    by_cases hlt : k < s.size
    · have HT := hide (take_snocB s k hlt)
      generalize s.data.toList.take k = L at *
      have hb : ((s[k].toNat : Nat) : Int) ≤ 255 := by have := s[k].toNat_lt; omega
      clear hown hB
      cases hpl : plainB (s[k].toNat : Int) with
      | true =>
        go_wp2_with (first
          | (go_at_call 65; refine (isPlain_any _ _ (by omega) (by omega)).mono ?_; rintro e w1 ⟨rfl, hw⟩; have hw := hw.symm; subst hw)
          | (at_builtin; refine wpList_append_lies _ rfl (.tmp 17) (.tmp 19) 92 rfl w.heap.size 5 i0 (.int .u8 0) 1 1 Tryz.underlying92 hi hz0 hz1 hz2 rfl (by decide) _ (escL L).length (u8s (escL L)) rfl ((unhide HO).alloc _) ⟨wr.heap.size, 0, none⟩ 1 1 [.int .u8 (s[k].toNat : Int)] rfl rfl (news_of (heap_alloc_new _ _)) (by intro u hu; simp at hu; subst hu; rfl) (by decide) (by unfold maxLen; omega) (by omega) (by simp; omega) _ rfl ?_)
          | fail)
        intro g cap w2 hown2 hgrow _ hlt2
        have hB2 : Below w.heap.size w w2 := ((unhide HB).alloc hsz _).grown hgrow (by simp; omega) (fun j hj => ((unhide HO).lt j hj).1)
        have HB2 := hide hB2
        have HO2 := hide hown2
        have HE : Hid (escL (L ++ [s[k]]) = escL L ++ [s[k]]) := by show escL (L ++ [s[k]]) = _; rw [escL_snoc, escB, if_pos hpl]
        clear hown2 hgrow hB2 HO HB
        go_wp2_with fail
        go_roundw
        case rel => exact ⟨k + 1, by omega, by go_num, by rw [unhide HT, unhide HE, u8s_append, List.length_append]; exact unhide HO2, unhide HB2⟩
        case measure => simp [intOf]; omega
      | false =>
        obtain ⟨q, hq, hq16, HQ⟩ : ∃ q : Nat, IntKind.u8.wrap ((s[k].toNat : Int) / 16) = (q : Int) ∧ (q : Int) < 16 ∧ Hid (q = s[k].toNat / 16) := ⟨s[k].toNat / 16, by unfold IntKind.wrap; simp [IntKind.signed, IntKind.bits]; omega, by omega, rfl⟩
        obtain ⟨r, hr, hr16, HR⟩ : ∃ r : Nat, ((s[k].toNat : Int).tmod 16) = (r : Int) ∧ (r : Int) < 16 ∧ Hid (r = s[k].toNat % 16) := ⟨s[k].toNat % 16, by rw [Int.tmod_eq_emod_of_nonneg (by omega)]; omega, by omega, rfl⟩
        go_wp2_with (first
          | (go_at_call 65; refine (isPlain_any _ _ (by omega) (by omega)).mono ?_; rintro e w1 ⟨rfl, hw⟩; have hw := hw.symm; subst hw)
          | fail)
        have HE : Hid (escL (L ++ [s[k]]) = escL L ++ [92, 120, hexD q, hexD r]) := by show escL (L ++ [s[k]]) = _; rw [escL_snoc, escB, hpl, unhide HQ, unhide HR]; rfl
        go_region_law
          (refine step_append_lies _ rfl (.tmp 21) (.tmp 28) 92 rfl w.heap.size 5 i0 (.int .u8 0) 1 1 Tryz.underlying92 hi hz0 hz1 hz2 rfl (by decide) u3 (escL L).length (u8s (escL L)) (by simp [Act.eval]) (by exact ((unhide HO).alloc _).drew) ⟨wr.heap.size, 0, none⟩ 4 4 _ (by simp [Act.eval]) rfl (news_of (heap_alloc_new _ _)) (by intro u hu; simp at hu; rcases hu with rfl | rfl | rfl | rfl <;> rfl) (by decide) (by unfold maxLen; omega) (by omega) (by show w.heap.size ≤ (wr.alloc _).heap.size; simp; omega) _ rfl ?_;
           intro g cap w2 hown2 hgrow _ _;
           have HB2 : Hid (Below w.heap.size w w2) := (((unhide HB).alloc hsz _).drew).grown hgrow (by show w.heap.size ≤ (wr.alloc _).heap.size; simp; omega) (fun j hj => ((unhide HO).lt j hj).1);
           have HO2 := hide hown2;
           clear hown2 hgrow)
        all_goals go_wp2_with fail
        all_goals go_roundw
        all_goals first
          | (case measure => simp [intOf]; omega)
          | skip
        all_goals
          refine ⟨k + 1, by omega, by go_num, ?_, unhide HB2⟩
          rw [unhide HT, unhide HE, u8s_append, List.length_append]
          have e : u8s [92, 120, hexD q, hexD r] = [.int .u8 92, .int .u8 120, .int .u8 ((hexD q).toNat : Int), .int .u8 ((hexD r).toNat : Int)] := rfl
          rw [e, ← hex_at q (by show q < 16; omega), ← hex_at r (by show r < 16; omega)]
          exact unhide HO2
    · have HT : Hid (s.data.toList.take k = s.data.toList) := List.take_of_length_le (by show s.size ≤ k; omega)
      rw [unhide HT] at hown
      have hcv := conv_own hown
      clear hown hB
      go_wp2_with fail
      go_ret
      exact ⟨rfl, unhide HB⟩

end Go.Proofs.YtdaneedflpfeaabGreatDoor

namespace Go.Proofs.YtdaneedflpfeaabGreatDoor
set_option maxRecDepth 100000
open Go.RowKit

set_option maxHeartbeats 800000 in
theorem label_any (n : Nd) (w : World) (hs : n.text.size ≤ 1000000) :
    Calls Tryz.prog 23 #[.agg #[.bool n.inner, .string n.text, .int .i64 n.depth]] w fun e w' => e = .returned (.string (mk (labelL n))) ∧ Below w.heap.size w w' := by
  cases hi : n.inner with
  | true =>
    have HF : Hid ((⟨#[64]⟩ : ByteArray) ++ n.text = mk (labelL n)) := by show mk [64] ++ n.text = _; rw [cat_mk]; simp [labelL, hi]
    clear hi
    go_enter Tryz.func23, Tryz.ntmps23
    go_wp2_with fail
    go_ret
    exact ⟨ret_str (unhide HF), (Below.refl _ _).alloc (Nat.le_refl _) _⟩
  | false =>
    have HF : Hid (∀ e : ByteArray, e = mk (escL n.text.data.toList) → (⟨#[39]⟩ : ByteArray) ++ e = mk (labelL n)) := by
      intro e he; show mk [39] ++ e = _; rw [he, mk_append]; simp [labelL, hi]
    clear hi
    have hlen := escL_len n.text.data.toList
    have hl2 : n.text.data.toList.length = n.text.size := rfl
    go_enter Tryz.func23, Tryz.ntmps23
    go_wp2_with fail
    refine (escaped_any n.text _ hs).mono ?_
    rintro e w1 ⟨rfl, hB⟩
    have HB : Hid (Below w.heap.size w w1) := ((Below.refl w.heap.size w).alloc (Nat.le_refl _) _).trans (hB.mono (by simp))
    obtain ⟨eb, heb⟩ : ∃ eb, eb = mk (escL n.text.data.toList) := ⟨_, rfl⟩
    have hes : eb.size ≤ 4000000 := by rw [heb, mk_size]; omega
    rw [← heb]
    have HE := hide heb
    clear heb hB
    go_wp2_with fail
    go_ret
    exact ⟨ret_str (unhide HF eb (unhide HE)), unhide HB⟩

set_option maxHeartbeats 3200000 in
theorem written_any (l : List Nd) (base g cap : Nat) (w : World) (hl : l.length ≤ 1000000) (hm : Mod l) (hg : g < w.heap.size) (hown : w.ownsRow base 54 3 (.slice (some ⟨g, 0, none⟩) l.length cap) l.length (ndsCells l)) :
    Calls Tryz.prog 11 #[.slice (some ⟨g, 0, none⟩) l.length cap] w fun e w' => e = .returned (.string (mk (writtenL l))) ∧ Below w.heap.size w w' := by
  have HO := hide hown
  have HM := hide hm
  clear hown hm
  go_enter Tryz.func11, Tryz.ntmps11
  go_wp2_with fail
  go_loopw [3, 4, 5, 6, 9] (fun v d _ _ i wr => ∃ (k : Nat) (o : ByteArray), k ≤ l.length ∧ i = .int .i64 k ∧ v = .string o ∧ Hid (o = mk (wAcc (l.take k)).1) ∧ d = .int .i64 (wAcc (l.take k)).2.1 ∧ Below w.heap.size w wr) (fun _ _ _ _ i _ => l.length - (intOf i).toNat)
  case atStart => exact ⟨0, ⟨#[]⟩, Nat.zero_le _, rfl, rfl, rfl, rfl, Below.refl _ _⟩
  case round =>
    obtain ⟨k, o, hk, rfl, rfl, HOO, rfl, hB⟩ := hrel
    have HB := hide hB
    have hsz := hB.size
    have hgr : g < wr.heap.size := by omega
    have hop := wAcc_open ((unhide HM).take k)
    have hol : o.size ≤ 10000000000000 := by
      rw [unhide HOO, mk_size]; have := wAcc_len _ ((unhide HM).take k); have h2 : (l.take k).length ≤ k := List.length_take_le _ _; omega
    by_cases hlt : k < l.length
    · obtain ⟨x, hx⟩ : ∃ x, l[k]? = some x := ⟨_, List.getElem?_eq_getElem hlt⟩
      obtain ⟨x0, x1, x2⟩ := row_nd (row_keep (unhide HO) (hB.block g hg)) hx
      have hxm := unhide HM x (List.mem_of_getElem? hx)
      have HI : Hid (wAcc (l.take (k + 1)) = wStep (wAcc (l.take k)) x) := by show wAcc (l.take (k + 1)) = _; rw [take_snoc' l k x hx, wAcc_snoc]
      have HF : Hid ((wAcc (l.take k)).2.2 = decide (k = 0)) := by
        show (wAcc (l.take k)).2.2 = _
        rw [wAcc_first, Bool.eq_iff_iff]; simp; intro h; subst h; simp at hlt
      clear hB hx
      generalize hA : wAcc (l.take k) = A at *
      have HA := hide hA
      clear hA
      have hcl := fun wx => closing_any (A.2.1 - x.depth) wx (by omega)
      have hps0 : (mk (parens (A.2.1 - x.depth).toNat)).size ≤ 3000000 := by rw [mk_size, parens, List.length_replicate]; omega
      have HC := hide hcl
      clear hcl
      go_wp2_with fail
      refine (unhide HC _).mono ?_
      rintro e w1 ⟨rfl, hw⟩; have hw := hw.symm; subst hw
      obtain ⟨pb, hpb⟩ : ∃ pb, pb = mk (parens (A.2.1 - x.depth).toNat) := ⟨_, rfl⟩
      rw [← hpb] at hps0 ⊢
      have HPB := hide hpb
      clear hpb HC
      obtain ⟨lb, hlb⟩ : ∃ lb, lb = mk (labelL x) := ⟨_, rfl⟩
      have hls : lb.size ≤ 5000000 := by rw [hlb, mk_size]; have := labelL_len x hxm.2.2; omega
      have HLB := hide hlb
      have HLA : Hid (∀ w, Calls Tryz.prog 23 #[.agg #[.bool x.inner, .string x.text, .int .i64 x.depth]] w fun e w' => e = .returned (.string lb) ∧ Below w.heap.size w w') := fun w => by rw [hlb]; exact label_any x w hxm.2.2
      clear hlb
      have HFIN : Hid (∀ (c1 c2 : List UInt8), (if A.2.2 = true then [] else [32]) = c1 → (if x.inner = true then [40] else []) = c2 → o ++ pb ++ mk c1 ++ mk c2 ++ lb = mk (wStep A x).1) := by
        intro c1 c2 h1 h2
        rw [unhide HOO, unhide HPB, unhide HLB, mk_append, mk_append, mk_append, mk_append, ← h1, ← h2]
        rfl
      cases hin : x.inner with
      | true =>
        rw [hin] at x0 HLA
        by_cases hk0 : k = 0
        · subst hk0
          have HW : Hid (mk (wStep A x).1 = (o ++ pb ++ ⟨#[40]⟩) ++ lb) := by
            show mk (wStep A x).1 = _
            have hfin := unhide HFIN [] [40] (by rw [unhide HF]; simp) (by simp [hin])
            try simp only [cat_nil] at hfin
            exact hfin.symm
          have HD : Hid ((wStep A x).2.1 = x.depth + 1) := by show (wStep A x).2.1 = _; simp [wStep, hin]
          clear hin
          go_wp2_with fail
          refine (unhide HLA _).mono ?_
          rintro e w1 ⟨rfl, hB1⟩
          have HB1 : Hid (Below w.heap.size w w1) := ((unhide HB).alloc hsz _).trans (hB1.mono (by simp; omega))
          clear hB1
          go_wp2_with fail
          go_roundw
          case rel => exact ⟨0 + 1, _, by omega, by go_num, rfl, by rw [unhide HI, unhide HW]; rfl, by rw [unhide HI, unhide HD], unhide HB1⟩
          case measure => simp [intOf]; omega
        · have hk1 : (0 : Int) < (k : Int) := by omega
          have HW : Hid (mk (wStep A x).1 = ((o ++ pb ++ ⟨#[32]⟩) ++ ⟨#[40]⟩) ++ lb) := by
            show mk (wStep A x).1 = _
            have hfin := unhide HFIN [32] [40] (by rw [unhide HF]; simp [hk0]) (by simp [hin])
            try simp only [cat_nil] at hfin
            exact hfin.symm
          have HD : Hid ((wStep A x).2.1 = x.depth + 1) := by show (wStep A x).2.1 = _; simp [wStep, hin]
          clear hin
          go_wp2_with fail
          refine (unhide HLA _).mono ?_
          rintro e w1 ⟨rfl, hB1⟩
          have HB1 : Hid (Below w.heap.size w w1) := ((unhide HB).alloc hsz _).trans (hB1.mono (by simp; omega))
          clear hB1
          go_wp2_with fail
          go_roundw
          case rel => exact ⟨k + 1, _, by omega, by go_num, rfl, by rw [unhide HI, unhide HW]; rfl, by rw [unhide HI, unhide HD], unhide HB1⟩
          case measure => simp [intOf]; omega
      | false =>
        rw [hin] at x0 HLA
        by_cases hk0 : k = 0
        · subst hk0
          have HW : Hid (mk (wStep A x).1 = o ++ pb ++ lb) := by
            show mk (wStep A x).1 = _
            have hfin := unhide HFIN [] [] (by rw [unhide HF]; simp) (by simp [hin])
            try simp only [cat_nil] at hfin
            exact hfin.symm
          have HD : Hid ((wStep A x).2.1 = x.depth) := by show (wStep A x).2.1 = _; simp [wStep, hin]
          clear hin
          go_wp2_with fail
          refine (unhide HLA _).mono ?_
          rintro e w1 ⟨rfl, hB1⟩
          have HB1 : Hid (Below w.heap.size w w1) := ((unhide HB).alloc hsz _).trans (hB1.mono (by simp; omega))
          clear hB1
          go_wp2_with fail
          go_roundw
          case rel => exact ⟨0 + 1, _, by omega, by go_num, rfl, by rw [unhide HI, unhide HW]; rfl, by rw [unhide HI, unhide HD], unhide HB1⟩
          case measure => simp [intOf]; omega
        · have hk1 : (0 : Int) < (k : Int) := by omega
          have HW : Hid (mk (wStep A x).1 = (o ++ pb ++ ⟨#[32]⟩) ++ lb) := by
            show mk (wStep A x).1 = _
            have hfin := unhide HFIN [32] [] (by rw [unhide HF]; simp [hk0]) (by simp [hin])
            try simp only [cat_nil] at hfin
            exact hfin.symm
          have HD : Hid ((wStep A x).2.1 = x.depth) := by show (wStep A x).2.1 = _; simp [wStep, hin]
          clear hin
          go_wp2_with fail
          refine (unhide HLA _).mono ?_
          rintro e w1 ⟨rfl, hB1⟩
          have HB1 : Hid (Below w.heap.size w w1) := ((unhide HB).alloc hsz _).trans (hB1.mono (by simp; omega))
          clear hB1
          go_wp2_with fail
          go_roundw
          case rel => exact ⟨k + 1, _, by omega, by go_num, rfl, by rw [unhide HI, unhide HW]; rfl, by rw [unhide HI, unhide HD], unhide HB1⟩
          case measure => simp [intOf]; omega
    · have HT : Hid (l.take k = l) := List.take_of_length_le (by omega)
      rw [unhide HT] at hop HOO
      have hps0 : (mk (parens (wAcc l).2.1.toNat)).size ≤ 3000000 := by rw [mk_size, parens, List.length_replicate]; omega
      have HC := hide (fun wx => closing_any (wAcc l).2.1 wx (by omega))
      have HW : Hid (writtenL l = (wAcc l).1 ++ parens (wAcc l).2.1.toNat) := rfl
      rw [unhide HT]
      generalize wAcc l = A at *
      clear hB
      go_wp2_with fail
      refine (unhide HC _).mono ?_
      rintro e w1 ⟨rfl, hw⟩; have hw := hw.symm; subst hw
      obtain ⟨pb, hpb⟩ : ∃ pb, pb = mk (parens A.2.1.toNat) := ⟨_, rfl⟩
      rw [← hpb] at hps0 ⊢
      have HPB := hide hpb
      clear hpb HC
      go_wp2_with fail
      go_ret
      exact ⟨ret_str (by rw [unhide HW, unhide HOO, unhide HPB, mk_append]), unhide HB⟩

end Go.Proofs.YtdaneedflpfeaabGreatDoor

namespace Go.Proofs.YtdaneedflpfeaabGreatDoor
set_option maxRecDepth 100000
open Go.RowKit

/-- What Show answers. -/
def showT (s : ByteArray) : Ending :=
  match outT s with
  | .err c p => .returned (.tuple #[.string ⟨#[]⟩, .int .i64 c, .int .i64 p])
  | .ok l => .returned (.tuple #[.string (mk (writtenL l)), .int .i64 0, .int .i64 0])

set_option maxHeartbeats 800000 in
/-- Show, of every text. -/
theorem show_any (s : ByteArray) (w : World) : Calls Tryz.prog 6 #[.string s] w fun e w' => e = showT s ∧ Below w.heap.size w w' := by
  cases ho : outT s with
  | err c p =>
    have HR : Hid (∀ wx, Calls Tryz.prog 10 #[.string s] wx fun e w' => RPost wx (.err c p) e w') := fun wx => by have := read_all s wx; rw [ho] at this; exact this
    have HS : Hid (showT s = .returned (.tuple #[.string ⟨#[]⟩, .int .i64 c, .int .i64 p])) := by show showT s = _; simp [showT, ho]
    have hc : (c != 0) = true := bne_iff_ne.2 (outT_ne ho).1
    clear ho
    go_enter Tryz.func6, Tryz.ntmps6
    go_wp2_with fail
    refine (unhide HR _).mono ?_
    rintro e w1 ⟨hB, rfl⟩
    have HB := hide hB
    clear hB
    go_wp2_with fail
    go_ret3
    exact ⟨(unhide HS).symm, unhide HB⟩
  | ok l =>
    have HR : Hid (∀ wx, Calls Tryz.prog 10 #[.string s] wx fun e w' => RPost wx (.ok l) e w') := fun wx => by have := read_all s wx; rw [ho] at this; exact this
    have HS : Hid (showT s = .returned (.tuple #[.string (mk (writtenL l)), .int .i64 0, .int .i64 0])) := by show showT s = _; simp [showT, ho]
    obtain ⟨l0, j, _, _, hl0, hlen, hmod⟩ := outT_mod ho
    have hl80 : l.length ≤ 1000000 := by rw [hl0, List.length_map]; omega
    have HM := hide hmod
    clear ho hl0 hmod
    go_enter Tryz.func6, Tryz.ntmps6
    go_wp2_with fail
    refine (unhide HR _).mono ?_
    rintro e w1 ⟨hB, g, cap, rfl, hg, hown⟩
    have HB := hide hB
    have HO := hide hown
    have hsz := hB.size
    clear hB hown
    go_wp2_with fail
    refine (written_any l _ g cap _ hl80 (unhide HM) hg (unhide HO)).mono ?_
    rintro e w2 ⟨rfl, hB2⟩
    have HB2 : Hid (Below w.heap.size w w2) := (unhide HB).trans (hB2.mono hsz)
    clear hB2
    go_wp2_with fail
    go_ret3
    exact ⟨(unhide HS).symm, unhide HB2⟩

end Go.Proofs.YtdaneedflpfeaabGreatDoor
