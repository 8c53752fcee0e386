import Derived.Test.YtdaneedflpfeaaaStr
import Derived.Test.YtdaneedflpfeaaaRead2
namespace Go.Proofs.Ytdaneedflpfeaaa
set_option maxRecDepth 100000
open Go.RowKit

set_option maxHeartbeats 800000 in
theorem closing_any (c : Int) (w : World) (hc : c ≤ 10000000) :
    Calls Try.prog 34 #[.int .i64 c] w fun e w' => e = .returned (.string (mk (parens c.toNat))) ∧ w' = w := by
  go_enter Try.func34, Try.ntmps34
  go_wp2_with fail
  go_loop [3, 4] (fun v i => ∃ (k : Nat) (o : ByteArray), (k ≤ c.toNat) ∧ i = .int .i64 k ∧ v = .string o ∧ Hid (o = mk (parens k)) ∧ o.size = k) (fun _ i => c.toNat - (intOf i).toNat)
  case atStart => exact ⟨0, ⟨#[]⟩, Nat.zero_le _, rfl, rfl, rfl, rfl⟩
  case round =>
    obtain ⟨k, o, hk, rfl, rfl, HO, hsz⟩ := hrel
    have HZ := hide hsz
    have hle : o.size ≤ 10000000 := by omega
    clear hsz
    by_cases hlt : (k : Int) < c
    · go_wp2_with fail
      go_round
      case rel =>
        refine ⟨k + 1, o ++ ⟨#[41]⟩, by omega, by go_num, rfl, ?_, ?_⟩
        · show o ++ mk [41] = _
          rw [unhide HO, mk_append, parens, parens, List.replicate_succ']
        · rw [ByteArray.size_append, unhide HZ]; rfl
      case measure => simp [intOf]; omega
    · have hkc : Hid (k = c.toNat) := by show k = c.toNat; omega
      go_wp2_with fail
      go_ret
      exact ⟨ret_str (by rw [unhide HO, unhide hkc]), rfl⟩

set_option maxHeartbeats 1600000 in
set_option maxRecDepth 100000 in
theorem escaped_any (s : ByteArray) (w : World) (hs : s.size ≤ 1000000) :
    Calls Try.prog 48 #[.string s] w fun e w' => e = .returned (.string (mk (escL s.data.toList))) ∧ Below w.heap.size w w' := by
  obtain ⟨i0, hi, hz0, hz1, hz2⟩ := info_parts Try.infoU8
  go_enter Try.func48, Try.ntmps48
  go_wp2_with fail
  go_loopw [3, 4, 5] (fun v i _ wr => ∃ k : Nat, k ≤ s.size ∧ i = .int .i64 k ∧ wr.ownsRow w.heap.size 5 1 v (escL (s.data.toList.take k)).length (u8s (escL (s.data.toList.take k))) ∧ Below w.heap.size w wr) (fun _ i _ _ => s.size - (intOf i).toNat)
  case atStart => exact ⟨0, Nat.zero_le _, rfl, World.ownsRow_nil _ _ _ _, Below.refl _ _⟩
  case round =>
    obtain ⟨k, hk, rfl, hown, hB⟩ := hrel
    have hel := escL_len (s.data.toList.take k)
    have hel2 : (s.data.toList.take k).length ≤ k := List.length_take_le _ _
    have HO := hide hown
    have HB := hide hB
    have hsz := hB.size
    by_cases hlt : k < s.size
    · have HT := hide (take_snocB s k hlt)
      generalize s.data.toList.take k = L at *
      have hb : ((s[k].toNat : Nat) : Int) ≤ 255 := by have := s[k].toNat_lt; omega
      clear hown hB
      cases hpl : plainB (s[k].toNat : Int) with
      | true =>
        go_wp2_with (first
          | (go_at_call 69; refine (isPlain_any _ _ (by omega) (by omega)).mono ?_; rintro e w1 ⟨rfl, hw⟩; have hw := hw.symm; subst hw)
          | (at_builtin; refine wpList_append_lies _ rfl (.tmp 17) (.tmp 19) 37 rfl w.heap.size 5 i0 (.int .u8 0) 1 1 Try.underlying37 hi hz0 hz1 hz2 rfl (by decide) _ (escL L).length (u8s (escL L)) rfl ((unhide HO).alloc _) ⟨wr.heap.size, 0, none⟩ 1 1 [.int .u8 (s[k].toNat : Int)] rfl rfl (news_of (heap_alloc_new _ _)) (by intro u hu; simp at hu; subst hu; rfl) (by decide) (by unfold maxLen; omega) (by omega) (by simp; omega) _ rfl ?_)
          | fail)
        intro g cap w2 hown2 hgrow _ hlt2
        have hB2 : Below w.heap.size w w2 := ((unhide HB).alloc hsz _).grown hgrow (by simp; omega) (fun j hj => ((unhide HO).lt j hj).1)
        have HB2 := hide hB2
        have HO2 := hide hown2
        have HE : Hid (escL (L ++ [s[k]]) = escL L ++ [s[k]]) := by show escL (L ++ [s[k]]) = _; rw [escL_snoc, escB, if_pos hpl]
        clear hown2 hgrow hB2 HO HB
        go_wp2_with fail
        go_roundw
        case rel => exact ⟨k + 1, by omega, by go_num, by rw [unhide HT, unhide HE, u8s_append, List.length_append]; exact unhide HO2, unhide HB2⟩
        case measure => simp [intOf]; omega
      | false =>
        obtain ⟨q, hq, hq16, HQ⟩ : ∃ q : Nat, IntKind.u8.wrap ((s[k].toNat : Int) / 16) = (q : Int) ∧ (q : Int) < 16 ∧ Hid (q = s[k].toNat / 16) := ⟨s[k].toNat / 16, by unfold IntKind.wrap; simp [IntKind.signed, IntKind.bits]; omega, by omega, rfl⟩
        obtain ⟨r, hr, hr16, HR⟩ : ∃ r : Nat, ((s[k].toNat : Int).tmod 16) = (r : Int) ∧ (r : Int) < 16 ∧ Hid (r = s[k].toNat % 16) := ⟨s[k].toNat % 16, by rw [Int.tmod_eq_emod_of_nonneg (by omega)]; omega, by omega, rfl⟩
        go_wp2_with (first
          | (go_at_call 69; refine (isPlain_any _ _ (by omega) (by omega)).mono ?_; rintro e w1 ⟨rfl, hw⟩; have hw := hw.symm; subst hw)
          | fail)
        have HE : Hid (escL (L ++ [s[k]]) = escL L ++ [92, 120, hexD q, hexD r]) := by show escL (L ++ [s[k]]) = _; rw [escL_snoc, escB, hpl, unhide HQ, unhide HR]; rfl
        go_region_law
          (refine step_append_lies _ rfl (.tmp 21) (.tmp 28) 37 rfl w.heap.size 5 i0 (.int .u8 0) 1 1 Try.underlying37 hi hz0 hz1 hz2 rfl (by decide) u3 (escL L).length (u8s (escL L)) (by simp [Act.eval]) (by exact ((unhide HO).alloc _).drew) ⟨wr.heap.size, 0, none⟩ 4 4 _ (by simp [Act.eval]) rfl (news_of (heap_alloc_new _ _)) (by intro u hu; simp at hu; rcases hu with rfl | rfl | rfl | rfl <;> rfl) (by decide) (by unfold maxLen; omega) (by omega) (by show w.heap.size ≤ (wr.alloc _).heap.size; simp; omega) _ rfl ?_;
           intro g cap w2 hown2 hgrow _ _;
           have HB2 : Hid (Below w.heap.size w w2) := (((unhide HB).alloc hsz _).drew).grown hgrow (by show w.heap.size ≤ (wr.alloc _).heap.size; simp; omega) (fun j hj => ((unhide HO).lt j hj).1);
           have HO2 := hide hown2;
           clear hown2 hgrow)
        all_goals go_wp2_with fail
        all_goals go_roundw
        all_goals first
          | (case measure => simp [intOf]; omega)
          | skip
        all_goals
          refine ⟨k + 1, by omega, by go_num, ?_, unhide HB2⟩
          rw [unhide HT, unhide HE, u8s_append, List.length_append]
          have e : u8s [92, 120, hexD q, hexD r] = [.int .u8 92, .int .u8 120, .int .u8 ((hexD q).toNat : Int), .int .u8 ((hexD r).toNat : Int)] := rfl
          rw [e, ← hex_at q (by show q < 16; omega), ← hex_at r (by show r < 16; omega)]
          exact unhide HO2
    · have HT : Hid (s.data.toList.take k = s.data.toList) := List.take_of_length_le (by show s.size ≤ k; omega)
      rw [unhide HT] at hown
      have hcv := conv_own hown
      clear hown hB
      go_wp2_with fail
      go_ret
      exact ⟨rfl, unhide HB⟩

end Go.Proofs.Ytdaneedflpfeaaa
