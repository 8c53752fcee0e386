import Derived.Test.YtdaneedflpfeaaaDoorRefPure
namespace Go.Proofs.YtdaneedflpfeaaaDoor
set_option maxRecDepth 100000
open Go.RowKit

theorem Tryd.infoRTok : (Tryd.prog.info? 50).map (fun i => (i.zero, i.size, i.bytes)) = some (some (.agg #[.string ⟨#[]⟩, .int .i64 0, .string ⟨#[]⟩]), 3, 40) := by kernel_rfl
theorem Tryd.infoKw : (Tryd.prog.info? 75).map (·.size) = some kwV.size := by kernel_rfl
theorem Tryd.infoSg : (Tryd.prog.info? 76).map (·.size) = some sgV.size := by kernel_rfl
theorem rtok_news {w : World} {B : Nat} {T : TypeId} (k x : ByteArray) (p : Int) (hb : w.heap[B]? = some (.cells #[.string k, .int .i64 p, .string x] T (0, 0))) :
    ∀ j u, [Value.string k, .int .i64 p, .string x][j]? = some u → w.cell? ((⟨B, 0, none⟩ : Addr).add j) = some u := World.news_of_block hb
theorem rtok_one (k x : ByteArray) (p : Int) : ∀ u ∈ [Value.string k, .int .i64 p, .string x], u.oneCell' = true := by
  intro u hu; simp at hu; rcases hu with rfl | rfl | rfl <;> rfl

theorem new2 (w : World) (o1 o2 : Obj) : ((w.alloc o1).alloc o2).heap[w.heap.size + 1]? = some o2 := by
  have h := heap_alloc_new (w.alloc o1) o2
  have e : (w.alloc o1).heap.size = w.heap.size + 1 := by simp
  rw [e] at h; exact h

theorem sgs_small : ∀ k ∈ sgs, k.size ≤ 2 := by decide
theorem tok_kept {wr w2 : World} {base n size : Nat} {e T : TypeId} {v : Value} {xs : List Value} {o2 : Obj} (k x : ByteArray) (p : Int) (hown : wr.ownsRow base e size v n xs)
    (hg : ((wr.alloc (.cells #[.string k, .int .i64 p, .string x] T (0, 0))).alloc o2).grownBy w2 v.ownBlock) : w2.cell? ⟨wr.heap.size, 0, none⟩ = some (.string k) := by
  have h1 := hg.block wr.heap.size (by simp; omega) (by intro h; have := (hown.lt _ h.symm).2; omega)
  rw [heap_alloc_old _ _ (by simp), heap_alloc_new] at h1
  rw [cell_of_row w2 wr.heap.size _ _ _ _ h1]; rfl

set_option maxHeartbeats 6400000 in
set_option maxRecDepth 100000 in
theorem tokens_any (s : ByteArray) (w : World) (hs : s.size ≤ 600) (hG : Glob w) (hw2 : 2 ≤ w.heap.size) :
    Calls Tryd.prog 13 #[.string s] w fun e w' => ∃ g cap, e = .returned (.slice (some ⟨g, 0, none⟩) (rscan s 0).length cap) ∧
      w'.ownsRow w.heap.size 50 3 (.slice (some ⟨g, 0, none⟩) (rscan s 0).length cap) (rscan s 0).length (rtoksCells (rscan s 0)) ∧ Below w.heap.size w w' ∧ g < w'.heap.size := by
  obtain ⟨i0, hi, hz0, hz1, hz2⟩ := info_parts Tryd.infoRTok
  have HG := hide hG
  clear hG
  go_enter Tryd.func13, Tryd.ntmps13
  go_wp2_with fail
  go_loopw [3, 4, 5, 6, 7, 8, 10, 12] (fun l f _ _ _ _ _ _ wr => ∃ (L : List RTok) (i : Nat), i ≤ s.size ∧ L.length ≤ i ∧ f = .int .i64 i ∧
      wr.ownsRow w.heap.size 50 3 l L.length (rtoksCells L) ∧ Hid (L ++ rscan s i = rscan s 0) ∧ Below w.heap.size w wr) (fun _ f _ _ _ _ _ _ _ => s.size - (intOf f).toNat)
  case atStart => exact ⟨[], 0, by omega, by simp, rfl, World.ownsRow_nil _ _ _ _, rfl, Below.refl _ _⟩
  case round =>
    obtain ⟨L, i, hi1, hL, rfl, hown, HE, hbel⟩ := hrel
    have ha := aheadE_bd s i hi1
    have HB := hide hbel
    have hsz := hbel.size
    have HO := hide hown
    have c1 := rtoksCells_len L
    have HGr := hide ((unhide HG).below hbel hw2)
    clear hbel hown
    have HSK : Hid (∀ wx, Calls Tryd.prog 29 #[.string s, .int .i64 (i : Int)] wx fun e w' => e = .returned (.tuple #[.int .i64 (skipI s (aheadE s i)), .int .i64 (aheadE s i)]) ∧ w' = wx) := fun wx => by
      have := skip_any s (i : Int) wx hs (by omega) (by omega); rw [Int.toNat_natCast] at this; exact this
    have HGO := hide (fun p e => @rscan_go s i p e hi1)
    have HST := hide (fun p => @rscan_stop s i p)
    generalize hp : aheadE s i = p at *
    clear hp
    have htb := tokenE_bd s p ha.2
    by_cases hc1 : p < s.size ∧ pairB s p 47 42 = true
    · have hsk : skipI s p = -1 := by simp [skipI, hc1]
      rw [hsk] at HSK
      have HT : Hid (¬ p < tokenE s p) := by
        show ¬ p < tokenE s p
        have h47 : bt s p = 47 := by have := hc1.2; simp [pairB] at this; exact this.1
        have hl : letterB (bt s p) = false := by rw [h47]; decide
        have hd : digitB (bt s p) = false := by rw [h47]; decide
        have : tokenE s p = p := by
          unfold tokenE signE
          rw [if_neg (by omega), hl, hd, hc1.2]; rfl
        omega
      have HK : Hid (rscan s 0 = L ++ [⟨kNone, p, emptyB⟩]) := by show rscan s 0 = _; rw [← unhide HE, unhide HST p rfl (unhide HT), if_pos hc1.1]
      clear hc1 hsk
      go_wp2_with fail
      refine (unhide HSK _).mono ?_
      rintro e w1 ⟨rfl, hw⟩; have hw := hw.symm; subst hw
      go_wp2_with (first
        | (at_builtin; refine wpList_append_lies _ rfl (.tmp 114) (.tmp 116) 41 rfl w.heap.size 50 i0 (.agg #[.string ⟨#[]⟩, .int .i64 0, .string ⟨#[]⟩]) 3 40 Tryd.underlying41 hi hz0 hz1 hz2 rfl (by decide) _ L.length (rtoksCells L) rfl (((unhide HO).alloc _).alloc _) ⟨wr.heap.size + 1, 0, none⟩ 1 1 [.string kNone, .int .i64 p, .string emptyB] rfl rfl (rtok_news _ _ _ (new2 _ _ _)) (rtok_one _ _ _) (by decide) (by unfold maxLen; omega) (by omega) (by simp; omega) _ rfl ?_)
        | fail)
      intro g cap w2 hown2 hgrow _ hlt2
      have hB2 : Below w.heap.size w w2 := (((unhide HB).alloc hsz _).alloc (by simp; omega) _).grown hgrow (by simp; omega) (fun k hk => ((unhide HO).lt k hk).1)
      have HB2 := hide hB2
      have hc0 := tok_kept _ _ _ (unhide HO) hgrow
      have HO2 := hide hown2
      clear hown2 hgrow hB2 HO HB HGr
      go_wp2_with fail
      go_ret
      refine ⟨g, cap, ?_, ?_, unhide HB2, hlt2⟩
      · rw [unhide HK, List.length_append]; rfl
      · rw [unhide HK, rtoksCells_snoc, List.length_append]; exact unhide HO2
    · have hsk : skipI s p = (p : Int) := by unfold skipI; rw [if_neg hc1]
      rw [hsk] at HSK
      clear hsk
      by_cases hps : p = s.size
      · have HK : Hid (rscan s 0 = L ++ [⟨kEnd, p, s.extract i p⟩]) := by show rscan s 0 = _; rw [← unhide HE, unhide HST p rfl (by rw [tokenE_out (by omega)]; omega), if_neg (by omega)]
        clear hc1
        subst hps
        go_wp2_with fail
        refine (unhide HSK _).mono ?_
        rintro e w1 ⟨rfl, hw⟩; have hw := hw.symm; subst hw
        go_wp2_with (first
          | (at_builtin; refine wpList_append_lies _ rfl (.tmp 114) (.tmp 116) 41 rfl w.heap.size 50 i0 (.agg #[.string ⟨#[]⟩, .int .i64 0, .string ⟨#[]⟩]) 3 40 Tryd.underlying41 hi hz0 hz1 hz2 rfl (by decide) _ L.length (rtoksCells L) rfl (((unhide HO).alloc _).alloc _) ⟨wr.heap.size + 1, 0, none⟩ 1 1 [.string kEnd, .int .i64 s.size, .string (s.extract i s.size)] rfl rfl (rtok_news _ _ _ (new2 _ _ _)) (rtok_one _ _ _) (by decide) (by unfold maxLen; omega) (by omega) (by simp; omega) _ rfl ?_)
          | fail)
        intro g cap w2 hown2 hgrow _ hlt2
        have hB2 : Below w.heap.size w w2 := (((unhide HB).alloc hsz _).alloc (by simp; omega) _).grown hgrow (by simp; omega) (fun k hk => ((unhide HO).lt k hk).1)
        have HB2 := hide hB2
        have hc0 := tok_kept _ _ _ (unhide HO) hgrow
        have HO2 := hide hown2
        clear hown2 hgrow hB2 HO HB HGr
        go_wp2_with fail
        go_ret
        refine ⟨g, cap, ?_, ?_, unhide HB2, hlt2⟩
        · rw [unhide HK, List.length_append]; rfl
        · rw [unhide HK, rtoksCells_snoc, List.length_append]; exact unhide HO2
      · have hlt : p < s.size := by omega
        have hpc : pairB s p 47 42 = false := by
          rw [Bool.eq_false_iff]; exact fun h => hc1 ⟨hlt, h⟩
        clear hc1
        have hpe : ((p : Int) == (s.size : Int)) = false := by rw [beq_eq_false_iff_ne]; omega
        have E0 := hide (bt_in hlt)
        have hb1 : ((s[p].toNat : Nat) : Int) ≤ 255 := by have := s[p].toNat_lt; omega
        cases hl : letterB (s[p].toNat : Int) with
        | true =>
          have HT : Hid (tokenE s p = runE wordB s p) := by show tokenE s p = _; unfold tokenE; rw [if_neg (by omega), unhide E0, hl]; rfl
          have hrl := runE_le wordB s p ha.2
          have hrg : p + 1 ≤ runE wordB s p := by rw [runE_yes hlt (by rw [unhide E0]; simp [wordB, hl])]; exact runE_ge _ _ _
          rw [unhide HT] at htb
          have hx := bt_ext s p (runE wordB s p) (by omega) hrl
          have HKW : Hid (kwF (s.extract p (runE wordB s p)) 7 = whatB (s.extract p (runE wordB s p))) := kw_what _ (by rw [hx.1]; omega) (by rw [hx.2, unhide E0]; exact hl)
          have HNE : Hid (whatB (s.extract p (runE wordB s p)) ≠ kEnd ∧ whatB (s.extract p (runE wordB s p)) ≠ kNone) := kw_what_ne _ (by rw [hx.1]; omega) (by rw [hx.2, unhide E0]; exact hl)
          have HK : Hid (rscan s i = ⟨whatB (s.extract p (runE wordB s p)), p, s.extract i (runE wordB s p)⟩ :: rscan s (runE wordB s p)) := unhide HGO p _ rfl (unhide HT) (by omega)
          clear hx hpc
          go_wp2_with fail
          refine (unhide HSK _).mono ?_
          rintro e w1 ⟨rfl, hw⟩; have hw := hw.symm; subst hw
          go_wp2_with (first
            | (go_at_call 30; refine (alpha_any _ _ (by omega) (by omega)).mono ?_; rintro e w1 ⟨rfl, hw⟩; have hw := hw.symm; subst hw)
            | (go_at_call 31; refine (num_any _ _ (by omega) (by omega)).mono ?_; rintro e w1 ⟨rfl, hw⟩; have hw := hw.symm; subst hw)
            | fail)
          go_loop [8] (fun k => ∃ j : Nat, p ≤ j ∧ j ≤ s.size ∧ k = .int .i64 j ∧ Hid (runE wordB s j = runE wordB s p)) (fun k => s.size - (intOf k).toNat)
          case atStart => exact ⟨p, Nat.le_refl _, ha.2, rfl, rfl⟩
          case round =>
            obtain ⟨j, hj1, hj2, rfl, HJ⟩ := hrel
            by_cases hjl : j < s.size
            · have E1 := hide (bt_in hjl)
              have hb2 : ((s[j].toNat : Nat) : Int) ≤ 255 := by have := s[j].toNat_lt; omega
              cases hlj : letterB (s[j].toNat : Int) with
              | true =>
                have HJ2 : Hid (runE wordB s (j + 1) = runE wordB s p) := by show runE wordB s (j + 1) = _; rw [← unhide HJ, runE_yes hjl (by rw [unhide E1]; simp [wordB, hlj])]
                go_wp2_with (first
                  | (go_at_call 30; refine (alpha_any _ _ (by omega) (by omega)).mono ?_; rintro e w1 ⟨rfl, hw⟩; have hw := hw.symm; subst hw)
                  | (go_at_call 31; refine (num_any _ _ (by omega) (by omega)).mono ?_; rintro e w1 ⟨rfl, hw⟩; have hw := hw.symm; subst hw)
                  | fail)
                go_round
                case rel => exact ⟨j + 1, by omega, by omega, by go_num, HJ2⟩
                case measure => simp [intOf]; omega
              | false =>
                cases hdj : digitB (s[j].toNat : Int) with
                | true =>
                  have HJ2 : Hid (runE wordB s (j + 1) = runE wordB s p) := by show runE wordB s (j + 1) = _; rw [← unhide HJ, runE_yes hjl (by rw [unhide E1]; simp [wordB, hdj])]
                  go_wp2_with (first
                  | (go_at_call 30; refine (alpha_any _ _ (by omega) (by omega)).mono ?_; rintro e w1 ⟨rfl, hw⟩; have hw := hw.symm; subst hw)
                  | (go_at_call 31; refine (num_any _ _ (by omega) (by omega)).mono ?_; rintro e w1 ⟨rfl, hw⟩; have hw := hw.symm; subst hw)
                  | fail)
                  go_round
                  case rel => exact ⟨j + 1, by omega, by omega, by go_num, HJ2⟩
                  case measure => simp [intOf]; omega
                | false =>
                  have HJ2 : runE wordB s p = j := by rw [← unhide HJ, runE_no (fun _ => by rw [unhide E1]; simp [wordB, hlj, hdj])]
                  rw [HJ2] at HKW HNE HK hrg hrl
                  clear HJ HJ2
                  obtain ⟨t0, f0, hf0⟩ := (unhide HGr).kw
                  go_wp2_with (first
                    | (go_at_call 30; refine (alpha_any _ _ (by omega) (by omega)).mono ?_; rintro e w1 ⟨rfl, hw⟩; have hw := hw.symm; subst hw)
                    | (go_at_call 31; refine (num_any _ _ (by omega) (by omega)).mono ?_; rintro e w1 ⟨rfl, hw⟩; have hw := hw.symm; subst hw)
                    | (refine wpList_load_row rfl 75 _ rfl 0 rfl t0 kwV f0 _ ((heap_alloc_old _ _ (by omega)).trans hf0) Tryd.underlying75 rfl Tryd.infoKw ?_)
                    | fail)
                  go_loopw [10, 76] (fun _ c wx => ∃ (m : Nat) (K : ByteArray), m ≤ 7 ∧ c = .int .i64 m ∧ Hid (K = kwF (s.extract p j) m) ∧ wx = wr.alloc (.cells #[.string K, .int .i64 p, .string ⟨#[]⟩] 50 (0, 0))) (fun _ c _ => 7 - (intOf c).toNat)
                  case atStart => exact ⟨0, kName, by omega, rfl, rfl, rfl⟩
                  case round =>
                    obtain ⟨m, K, hm, rfl, HM, rfl⟩ := hrel
                    by_cases hm7 : m < 7
                    · have hix := fun w => kw_ix m hm7 w
                      have HM2 := hide (kwF_succ (s.extract p j) m hm7)
                      generalize kws[m]'hm7 = X at *
                      cases hxe : (X.toList == (s.extract p j).toList) with
                      | true =>
                        have HM3 : Hid (X = kwF (s.extract p j) (m + 1)) := by show X = _; rw [unhide HM2, hxe]; rfl
                        go_wp2_with fail
                        go_roundw
                        case rel => exact ⟨m + 1, X, by omega, by go_num, HM3, rfl⟩
                        case measure => simp [intOf]; omega
                      | false =>
                        have HM3 : Hid (K = kwF (s.extract p j) (m + 1)) := by show K = _; rw [unhide HM2, hxe]; exact unhide HM
                        go_wp2_with fail
                        go_roundw
                        case rel => exact ⟨m + 1, K, by omega, by go_num, HM3, rfl⟩
                        case measure => simp [intOf]; omega
                    · have hme : m = 7 := by omega
                      subst hme
                      have hKW : whatB (s.extract p j) = K := by rw [← unhide HKW, unhide HM]
                      rw [hKW] at HK HNE
                      have hn1 : (K.toList == [110, 111, 110, 101]) = false := by rw [beq_eq_false_iff_ne]; exact fun h => (unhide HNE).2 (ba_ext (h.trans (Go.ByteArray.toList_eq kNone).symm))
                      have hn2 : (K.toList == [101, 110, 100]) = false := by rw [beq_eq_false_iff_ne]; exact fun h => (unhide HNE).1 (ba_ext (h.trans (Go.ByteArray.toList_eq kEnd).symm))
                      clear hKW HM
                      go_wp2_with (first
                        | (at_builtin; refine wpList_append_lies _ rfl (.tmp 114) (.tmp 116) 41 rfl w.heap.size 50 i0 (.agg #[.string ⟨#[]⟩, .int .i64 0, .string ⟨#[]⟩]) 3 40 Tryd.underlying41 hi hz0 hz1 hz2 rfl (by decide) _ L.length (rtoksCells L) rfl (((unhide HO).alloc _).alloc _) ⟨wr.heap.size + 1, 0, none⟩ 1 1 [.string K, .int .i64 p, .string (s.extract i j)] rfl rfl (rtok_news _ _ _ (new2 _ _ _)) (rtok_one _ _ _) (by decide) (by unfold maxLen; omega) (by omega) (by simp; omega) _ rfl ?_)
                        | fail)
                      intro g cap w2 hown2 hgrow _ hlt2
                      have hB2 : Below w.heap.size w w2 := (((unhide HB).alloc hsz _).alloc (by simp; omega) _).grown hgrow (by simp; omega) (fun k hk => ((unhide HO).lt k hk).1)
                      have HB2 := hide hB2
                      have hc0 := tok_kept _ _ _ (unhide HO) hgrow
                      have HO2 := hide hown2
                      clear hown2 hgrow hB2 HO HB HGr
                      go_wp2_with fail
                      go_roundw
                      case rel =>
                        refine ⟨L ++ [⟨K, p, s.extract i j⟩], j, hj2, by simp; omega, by go_num, ?_, ?_, unhide HB2⟩
                        · rw [rtoksCells_snoc, List.length_append]; exact unhide HO2
                        · show _ = _; rw [← unhide HE, unhide HK]; simp
                      case measure => simp [intOf]; omega


            · have HJ2 : runE wordB s p = j := by rw [← unhide HJ, runE_no (fun h => absurd h hjl)]
              rw [HJ2] at HKW HNE HK hrg hrl
              clear HJ HJ2
              obtain ⟨t0, f0, hf0⟩ := (unhide HGr).kw
              go_wp2_with (first
                | (go_at_call 30; refine (alpha_any _ _ (by omega) (by omega)).mono ?_; rintro e w1 ⟨rfl, hw⟩; have hw := hw.symm; subst hw)
                | (go_at_call 31; refine (num_any _ _ (by omega) (by omega)).mono ?_; rintro e w1 ⟨rfl, hw⟩; have hw := hw.symm; subst hw)
                | (refine wpList_load_row rfl 75 _ rfl 0 rfl t0 kwV f0 _ ((heap_alloc_old _ _ (by omega)).trans hf0) Tryd.underlying75 rfl Tryd.infoKw ?_)
                | fail)
              go_loopw [10, 76] (fun _ c wx => ∃ (m : Nat) (K : ByteArray), m ≤ 7 ∧ c = .int .i64 m ∧ Hid (K = kwF (s.extract p j) m) ∧ wx = wr.alloc (.cells #[.string K, .int .i64 p, .string ⟨#[]⟩] 50 (0, 0))) (fun _ c _ => 7 - (intOf c).toNat)
              case atStart => exact ⟨0, kName, by omega, rfl, rfl, rfl⟩
              case round =>
                obtain ⟨m, K, hm, rfl, HM, rfl⟩ := hrel
                by_cases hm7 : m < 7
                · have hix := fun w => kw_ix m hm7 w
                  have HM2 := hide (kwF_succ (s.extract p j) m hm7)
                  generalize kws[m]'hm7 = X at *
                  cases hxe : (X.toList == (s.extract p j).toList) with
                  | true =>
                    have HM3 : Hid (X = kwF (s.extract p j) (m + 1)) := by show X = _; rw [unhide HM2, hxe]; rfl
                    go_wp2_with fail
                    go_roundw
                    case rel => exact ⟨m + 1, X, by omega, by go_num, HM3, rfl⟩
                    case measure => simp [intOf]; omega
                  | false =>
                    have HM3 : Hid (K = kwF (s.extract p j) (m + 1)) := by show K = _; rw [unhide HM2, hxe]; exact unhide HM
                    go_wp2_with fail
                    go_roundw
                    case rel => exact ⟨m + 1, K, by omega, by go_num, HM3, rfl⟩
                    case measure => simp [intOf]; omega
                · have hme : m = 7 := by omega
                  subst hme
                  have hKW : whatB (s.extract p j) = K := by rw [← unhide HKW, unhide HM]
                  rw [hKW] at HK HNE
                  have hn1 : (K.toList == [110, 111, 110, 101]) = false := by rw [beq_eq_false_iff_ne]; exact fun h => (unhide HNE).2 (ba_ext (h.trans (Go.ByteArray.toList_eq kNone).symm))
                  have hn2 : (K.toList == [101, 110, 100]) = false := by rw [beq_eq_false_iff_ne]; exact fun h => (unhide HNE).1 (ba_ext (h.trans (Go.ByteArray.toList_eq kEnd).symm))
                  clear hKW HM
                  go_wp2_with (first
                    | (at_builtin; refine wpList_append_lies _ rfl (.tmp 114) (.tmp 116) 41 rfl w.heap.size 50 i0 (.agg #[.string ⟨#[]⟩, .int .i64 0, .string ⟨#[]⟩]) 3 40 Tryd.underlying41 hi hz0 hz1 hz2 rfl (by decide) _ L.length (rtoksCells L) rfl (((unhide HO).alloc _).alloc _) ⟨wr.heap.size + 1, 0, none⟩ 1 1 [.string K, .int .i64 p, .string (s.extract i j)] rfl rfl (rtok_news _ _ _ (new2 _ _ _)) (rtok_one _ _ _) (by decide) (by unfold maxLen; omega) (by omega) (by simp; omega) _ rfl ?_)
                    | fail)
                  intro g cap w2 hown2 hgrow _ hlt2
                  have hB2 : Below w.heap.size w w2 := (((unhide HB).alloc hsz _).alloc (by simp; omega) _).grown hgrow (by simp; omega) (fun k hk => ((unhide HO).lt k hk).1)
                  have HB2 := hide hB2
                  have hc0 := tok_kept _ _ _ (unhide HO) hgrow
                  have HO2 := hide hown2
                  clear hown2 hgrow hB2 HO HB HGr
                  go_wp2_with fail
                  go_roundw
                  case rel =>
                    refine ⟨L ++ [⟨K, p, s.extract i j⟩], j, hj2, by simp; omega, by go_num, ?_, ?_, unhide HB2⟩
                    · rw [rtoksCells_snoc, List.length_append]; exact unhide HO2
                    · show _ = _; rw [← unhide HE, unhide HK]; simp
                  case measure => simp [intOf]; omega


        | false =>
          cases hd : digitB (s[p].toNat : Int) with
          | true =>
            have HT : Hid (tokenE s p = runE digitB s p) := by show tokenE s p = _; unfold tokenE; rw [if_neg (by omega), unhide E0, hl, hd]; rfl
            have hrl := runE_le digitB s p ha.2
            have hrg : p + 1 ≤ runE digitB s p := by rw [runE_yes hlt (by rw [unhide E0]; exact hd)]; exact runE_ge _ _ _
            rw [unhide HT] at htb
            have hx := bt_ext s p (runE digitB s p) (by omega) hrl
            have HKN : Hid (whatB (s.extract p (runE digitB s p)) = kNumber) := num_what _ (by rw [hx.1]; omega) (by rw [hx.2, unhide E0]; exact hd)
            have HK : Hid (rscan s i = ⟨kNumber, p, s.extract i (runE digitB s p)⟩ :: rscan s (runE digitB s p)) := by show rscan s i = _; rw [unhide HGO p _ rfl (unhide HT) (by omega), unhide HKN]
            clear hx hpc HKN
            go_wp2_with fail
            refine (unhide HSK _).mono ?_
            rintro e w1 ⟨rfl, hw⟩; have hw := hw.symm; subst hw

            go_wp2_with (first
                    | (go_at_call 30; refine (alpha_any _ _ (by omega) (by omega)).mono ?_; rintro e w1 ⟨rfl, hw⟩; have hw := hw.symm; subst hw)
                    | (go_at_call 31; refine (num_any _ _ (by omega) (by omega)).mono ?_; rintro e w1 ⟨rfl, hw⟩; have hw := hw.symm; subst hw)
                    | fail)
            go_loop [8] (fun k => ∃ j : Nat, p ≤ j ∧ j ≤ s.size ∧ k = .int .i64 j ∧ Hid (runE digitB s j = runE digitB s p)) (fun k => s.size - (intOf k).toNat)
            case atStart => exact ⟨p, Nat.le_refl _, ha.2, rfl, rfl⟩
            case round =>
              obtain ⟨j, hj1, hj2, rfl, HJ⟩ := hrel
              by_cases hjl : j < s.size
              · have E1 := hide (bt_in hjl)
                have hb2 : ((s[j].toNat : Nat) : Int) ≤ 255 := by have := s[j].toNat_lt; omega
                cases hdj : digitB (s[j].toNat : Int) with
                | true =>
                  have HJ2 : Hid (runE digitB s (j + 1) = runE digitB s p) := by show runE digitB s (j + 1) = _; rw [← unhide HJ, runE_yes hjl (by rw [unhide E1]; exact hdj)]
                  go_wp2_with (first
                    | (go_at_call 30; refine (alpha_any _ _ (by omega) (by omega)).mono ?_; rintro e w1 ⟨rfl, hw⟩; have hw := hw.symm; subst hw)
                    | (go_at_call 31; refine (num_any _ _ (by omega) (by omega)).mono ?_; rintro e w1 ⟨rfl, hw⟩; have hw := hw.symm; subst hw)
                    | fail)
                  go_round
                  case rel => exact ⟨j + 1, by omega, by omega, by go_num, HJ2⟩
                  case measure => simp [intOf]; omega
                | false =>
                  have HJ2 : runE digitB s p = j := by rw [← unhide HJ, runE_no (fun _ => by rw [unhide E1]; exact hdj)]
                  rw [HJ2] at HK hrg hrl
                  clear HJ HJ2
                  go_wp2_with (first
                    | (go_at_call 30; refine (alpha_any _ _ (by omega) (by omega)).mono ?_; rintro e w1 ⟨rfl, hw⟩; have hw := hw.symm; subst hw)
                    | (go_at_call 31; refine (num_any _ _ (by omega) (by omega)).mono ?_; rintro e w1 ⟨rfl, hw⟩; have hw := hw.symm; subst hw)
                    | (at_builtin; refine wpList_append_lies _ rfl (.tmp 114) (.tmp 116) 41 rfl w.heap.size 50 i0 (.agg #[.string ⟨#[]⟩, .int .i64 0, .string ⟨#[]⟩]) 3 40 Tryd.underlying41 hi hz0 hz1 hz2 rfl (by decide) _ L.length (rtoksCells L) rfl (((unhide HO).alloc _).alloc _) ⟨wr.heap.size + 1, 0, none⟩ 1 1 [.string kNumber, .int .i64 p, .string (s.extract i j)] rfl rfl (rtok_news _ _ _ (new2 _ _ _)) (rtok_one _ _ _) (by decide) (by unfold maxLen; omega) (by omega) (by simp; omega) _ rfl ?_)
                    | fail)
                  intro g cap w2 hown2 hgrow _ hlt2
                  have hB2 : Below w.heap.size w w2 := (((unhide HB).alloc hsz _).alloc (by simp; omega) _).grown hgrow (by simp; omega) (fun k hk => ((unhide HO).lt k hk).1)
                  have HB2 := hide hB2
                  have hc0 := tok_kept _ _ _ (unhide HO) hgrow
                  have HO2 := hide hown2
                  clear hown2 hgrow hB2 HO HB HGr
                  go_wp2_with fail
                  go_roundw
                  case rel =>
                    refine ⟨L ++ [⟨kNumber, p, s.extract i j⟩], j, hj2, by simp; omega, by go_num, ?_, ?_, unhide HB2⟩
                    · rw [rtoksCells_snoc, List.length_append]; exact unhide HO2
                    · show _ = _; rw [← unhide HE, unhide HK]; simp
                  case measure => simp [intOf]; omega

              · have HJ2 : runE digitB s p = j := by rw [← unhide HJ, runE_no (fun h => absurd h hjl)]
                rw [HJ2] at HK hrg hrl
                clear HJ HJ2
                go_wp2_with (first
                  | (go_at_call 30; refine (alpha_any _ _ (by omega) (by omega)).mono ?_; rintro e w1 ⟨rfl, hw⟩; have hw := hw.symm; subst hw)
                  | (go_at_call 31; refine (num_any _ _ (by omega) (by omega)).mono ?_; rintro e w1 ⟨rfl, hw⟩; have hw := hw.symm; subst hw)
                  | (at_builtin; refine wpList_append_lies _ rfl (.tmp 114) (.tmp 116) 41 rfl w.heap.size 50 i0 (.agg #[.string ⟨#[]⟩, .int .i64 0, .string ⟨#[]⟩]) 3 40 Tryd.underlying41 hi hz0 hz1 hz2 rfl (by decide) _ L.length (rtoksCells L) rfl (((unhide HO).alloc _).alloc _) ⟨wr.heap.size + 1, 0, none⟩ 1 1 [.string kNumber, .int .i64 p, .string (s.extract i j)] rfl rfl (rtok_news _ _ _ (new2 _ _ _)) (rtok_one _ _ _) (by decide) (by unfold maxLen; omega) (by omega) (by simp; omega) _ rfl ?_)
                  | fail)
                intro g cap w2 hown2 hgrow _ hlt2
                have hB2 : Below w.heap.size w w2 := (((unhide HB).alloc hsz _).alloc (by simp; omega) _).grown hgrow (by simp; omega) (fun k hk => ((unhide HO).lt k hk).1)
                have HB2 := hide hB2
                have hc0 := tok_kept _ _ _ (unhide HO) hgrow
                have HO2 := hide hown2
                clear hown2 hgrow hB2 HO HB HGr
                go_wp2_with fail
                go_roundw
                case rel =>
                  refine ⟨L ++ [⟨kNumber, p, s.extract i j⟩], j, hj2, by simp; omega, by go_num, ?_, ?_, unhide HB2⟩
                  · rw [rtoksCells_snoc, List.length_append]; exact unhide HO2
                  · show _ = _; rw [← unhide HE, unhide HK]; simp
                case measure => simp [intOf]; omega

          | false =>
            obtain ⟨t1, f1, hf1⟩ := (unhide HGr).sg
            have HSG := hide (sgF_eq s p hlt hpc (by rw [unhide E0]; exact hl) (by rw [unhide E0]; exact hd))
            go_wp2_with fail
            refine (unhide HSK _).mono ?_
            rintro e w1 ⟨rfl, hw⟩; have hw := hw.symm; subst hw

            go_wp2_with (first
              | (go_at_call 30; refine (alpha_any _ _ (by omega) (by omega)).mono ?_; rintro e w1 ⟨rfl, hw⟩; have hw := hw.symm; subst hw)
              | (go_at_call 31; refine (num_any _ _ (by omega) (by omega)).mono ?_; rintro e w1 ⟨rfl, hw⟩; have hw := hw.symm; subst hw)
              | (refine wpList_load_row rfl 76 _ rfl 1 rfl t1 sgV f1 _ ((heap_alloc_old _ _ (by omega)).trans hf1) Tryd.underlying76 rfl Tryd.infoSg ?_)
              | fail)
            go_loopw [8, 12, 23] (fun k _ c wx => ∃ (m : Nat) (K : ByteArray) (q : Nat), m ≤ 18 ∧ c = .int .i64 m ∧ k = .int .i64 q ∧ Hid (sgF s p m = (K, q)) ∧ wx = wr.alloc (.cells #[.string K, .int .i64 p, .string ⟨#[]⟩] 50 (0, 0))) (fun _ _ c _ => 18 - (intOf c).toNat)
            case atStart => exact ⟨0, kNone, p, by omega, rfl, rfl, rfl, rfl⟩
            case round =>
              obtain ⟨m, K, q, hm, rfl, rfl, HM, rfl⟩ := hrel
              by_cases hm7 : m < 18
              · have hix := fun w => sg_ix m hm7 w
                have hsm := sgs_small _ (List.getElem_mem hm7)
                have HM2 := hide (sgF_succ s p m hm7)
                generalize sgs[m]'hm7 = X at *
                cases hb : beginsB s p X with
                | false =>
                  have HM3 : Hid (sgF s p (m + 1) = (K, q)) := by show _ = _; rw [unhide HM2, unhide HM]; simp [sgStep, hb]
                  go_wp2_with (go_at_call 32; refine (begins_any s _ _ _ hs (by omega) (by omega) (by omega)).mono ?_; rintro e w1 ⟨rfl, hw⟩; have hw := hw.symm; subst hw)
                  go_roundw
                  case rel => exact ⟨m + 1, K, q, by omega, by go_num, rfl, HM3, rfl⟩
                  case measure => simp [intOf]; omega
                | true =>
                  by_cases hqp : q = p
                  · subst hqp
                    have HM3 : Hid (sgF s q (m + 1) = (X, q + X.size)) := by show _ = _; rw [unhide HM2, unhide HM]; simp [sgStep, hb]
                    go_wp2_with (go_at_call 32; refine (begins_any s _ _ _ hs (by omega) (by omega) (by omega)).mono ?_; rintro e w1 ⟨rfl, hw⟩; have hw := hw.symm; subst hw)
                    go_roundw
                    case rel => exact ⟨m + 1, X, q + X.size, by omega, by go_num, by go_num, HM3, rfl⟩
                    case measure => simp [intOf]; omega
                  · have hqe : ((q : Int) == (p : Int)) = false := by rw [beq_eq_false_iff_ne]; omega
                    have HM3 : Hid (sgF s p (m + 1) = (K, q)) := by show _ = _; rw [unhide HM2, unhide HM]; simp [sgStep, hqp]
                    go_wp2_with (go_at_call 32; refine (begins_any s _ _ _ hs (by omega) (by omega) (by omega)).mono ?_; rintro e w1 ⟨rfl, hw⟩; have hw := hw.symm; subst hw)
                    go_roundw
                    case rel => exact ⟨m + 1, K, q, by omega, by go_num, rfl, HM3, rfl⟩
                    case measure => simp [intOf]; omega
              · have hme : m = 18 := by omega
                subst hme
                rcases unhide HSG with ⟨hpt, hsg, hne1, hne2⟩ | ⟨hpt, hsg⟩
                · have HK : Hid (rscan s i = ⟨whatB (s.extract p (tokenE s p)), p, s.extract i (tokenE s p)⟩ :: rscan s (tokenE s p)) := unhide HGO p _ rfl rfl hpt
                  have hpair := (unhide HM).symm.trans hsg
                  have hK1 : whatB (s.extract p (tokenE s p)) = K := (congrArg Prod.fst hpair).symm
                  have hK2 : tokenE s p = q := (congrArg Prod.snd hpair).symm
                  rw [hK1] at HK hne1 hne2
                  rw [hK2] at HK hpt htb
                  have hn1 : (K.toList == [110, 111, 110, 101]) = false := by rw [beq_eq_false_iff_ne]; exact fun h => hne1 (ba_ext (h.trans (Go.ByteArray.toList_eq kNone).symm))
                  have hn2 : (K.toList == [101, 110, 100]) = false := by rw [beq_eq_false_iff_ne]; exact fun h => hne2 (ba_ext (h.trans (Go.ByteArray.toList_eq kEnd).symm))
                  clear hne1 hne2 hpair hK1 hK2 hsg HM HSG
                  go_wp2_with (first
                    | (at_builtin; refine wpList_append_lies _ rfl (.tmp 114) (.tmp 116) 41 rfl w.heap.size 50 i0 (.agg #[.string ⟨#[]⟩, .int .i64 0, .string ⟨#[]⟩]) 3 40 Tryd.underlying41 hi hz0 hz1 hz2 rfl (by decide) _ L.length (rtoksCells L) rfl (((unhide HO).alloc _).alloc _) ⟨wr.heap.size + 1, 0, none⟩ 1 1 [.string K, .int .i64 p, .string (s.extract i q)] rfl rfl (rtok_news _ _ _ (new2 _ _ _)) (rtok_one _ _ _) (by decide) (by unfold maxLen; omega) (by omega) (by simp; omega) _ rfl ?_)
                    | fail)
                  intro g cap w2 hown2 hgrow _ hlt2
                  have hB2 : Below w.heap.size w w2 := (((unhide HB).alloc hsz _).alloc (by simp; omega) _).grown hgrow (by simp; omega) (fun k hk => ((unhide HO).lt k hk).1)
                  have HB2 := hide hB2
                  have hc0 := tok_kept _ _ _ (unhide HO) hgrow
                  have HO2 := hide hown2
                  clear hown2 hgrow hB2 HO HB HGr
                  go_wp2_with fail
                  go_roundw
                  case rel =>
                    refine ⟨L ++ [⟨K, p, s.extract i q⟩], q, htb.2, by simp; omega, by go_num, ?_, ?_, unhide HB2⟩
                    · rw [rtoksCells_snoc, List.length_append]; exact unhide HO2
                    · show _ = _; rw [← unhide HE, unhide HK]; simp
                  case measure => simp [intOf]; omega

                · have HK : Hid (rscan s 0 = L ++ [⟨kNone, p, emptyB⟩]) := by show rscan s 0 = _; rw [← unhide HE, unhide HST p rfl hpt, if_pos hlt]
                  have hpair := (unhide HM).symm.trans hsg
                  have hK1 : K = kNone := congrArg Prod.fst hpair
                  rw [← hK1] at HK
                  have hn1 : (K.toList == [110, 111, 110, 101]) = true := by rw [hK1, Go.ByteArray.toList_eq]; rfl
                  clear hpair hsg HM HSG hK1
                  go_wp2_with (first
                    | (at_builtin; refine wpList_append_lies _ rfl (.tmp 114) (.tmp 116) 41 rfl w.heap.size 50 i0 (.agg #[.string ⟨#[]⟩, .int .i64 0, .string ⟨#[]⟩]) 3 40 Tryd.underlying41 hi hz0 hz1 hz2 rfl (by decide) _ L.length (rtoksCells L) rfl (((unhide HO).alloc _).alloc _) ⟨wr.heap.size + 1, 0, none⟩ 1 1 [.string K, .int .i64 p, .string emptyB] rfl rfl (rtok_news _ _ _ (new2 _ _ _)) (rtok_one _ _ _) (by decide) (by unfold maxLen; omega) (by omega) (by simp; omega) _ rfl ?_)
                    | fail)
                  intro g cap w2 hown2 hgrow _ hlt2
                  have hB2 : Below w.heap.size w w2 := (((unhide HB).alloc hsz _).alloc (by simp; omega) _).grown hgrow (by simp; omega) (fun k hk => ((unhide HO).lt k hk).1)
                  have HB2 := hide hB2
                  have hc0 := tok_kept _ _ _ (unhide HO) hgrow
                  have HO2 := hide hown2
                  clear hown2 hgrow hB2 HO HB HGr
                  go_wp2_with fail
                  go_ret
                  refine ⟨g, cap, ?_, ?_, unhide HB2, hlt2⟩
                  · rw [unhide HK, List.length_append]; rfl
                  · rw [unhide HK, rtoksCells_snoc, List.length_append]; exact unhide HO2


end Go.Proofs.YtdaneedflpfeaaaDoor
