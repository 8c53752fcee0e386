import Derived.Test.YtdaneedflpfeaaaGreatDoorDifN
import Derived.Test.YtdaneedflpfeaaaGreatDoorPatY
import Derived.Test.YtdaneedflpfeaaaGreatDoorDistP
import Derived.Test.YtdaneedflpfeaaaGreatDoorRefParse
namespace Go.Proofs.YtdaneedflpfeaaaGreatDoor
set_option maxRecDepth 100000
open Go.RowKit

theorem take_snocD (s : ByteArray) (k : Nat) (h : k < s.size) : s.data.toList.take (k + 1) = s.data.toList.take k ++ [s[k]] := by
  rw [List.take_succ_eq_append_getElem (by simpa using h)]; rfl

set_option maxHeartbeats 1600000 in
theorem lawLines_any (s : ByteArray) (w : World) (hs : s.size ≤ 1000000) :
    Calls Tryz.prog 10 #[.string s] w fun e w' => e = .returned (.int .i64 (s.data.toList.count 10 : Int)) ∧ Below w.heap.size w w' := by
  go_enter Tryz.func10, Tryz.ntmps10
  go_wp2_with fail
  go_loopw [3, 4] (fun c i wr => ∃ k : Nat, k ≤ s.size ∧ i = .int .i64 (k : Int) ∧ c = .int .i64 ((s.data.toList.take k).count 10 : Int) ∧ Below w.heap.size w wr) (fun _ i _ => s.size - (intOf i).toNat)
  case atStart => exact ⟨0, Nat.zero_le _, rfl, rfl, Below.refl _ _⟩
  case round =>
    obtain ⟨k, hk, rfl, rfl, hB⟩ := hrel
    have HB := hide hB
    have hcl : (s.data.toList.take k).count 10 ≤ 1000000 := by
      have := List.count_le_length (a := (10 : UInt8)) (l := s.data.toList.take k)
      rw [List.length_take] at this
      omega
    clear hB
    by_cases hlt : k < s.size
    · have hsn := take_snocD s k hlt
      by_cases h10 : s[k] = 10
      · have h10' : ((s[k].toNat : Int) == 10) = true := by rw [h10]; rfl
        have HCN : Hid ((s.data.toList.take (k + 1)).count 10 = (s.data.toList.take k).count 10 + 1) := by
          show _ = _
          rw [hsn, h10, List.count_append]; rfl
        clear hsn h10
        generalize (s.data.toList.take k).count 10 = c at *
        go_wp2_with fail
        go_roundw
        case rel => exact ⟨k + 1, by omega, by go_num, by rw [unhide HCN]; go_num, unhide HB⟩
        case measure => simp [intOf]; omega
      · have h10' : ((s[k].toNat : Int) == 10) = false := u8_ne h10
        have HCN : Hid ((s.data.toList.take (k + 1)).count 10 = (s.data.toList.take k).count 10) := by
          show _ = _
          rw [hsn, List.count_append, List.count_singleton, if_neg (by simpa using h10)]; rfl
        clear hsn h10
        generalize (s.data.toList.take k).count 10 = c at *
        go_wp2_with fail
        go_roundw
        case rel => exact ⟨k + 1, by omega, by go_num, by rw [unhide HCN], unhide HB⟩
        case measure => simp [intOf]; omega
    · have hall : s.data.toList.take k = s.data.toList := List.take_of_length_le (by show s.size ≤ k; omega)
      rw [hall] at hcl ⊢
      clear hall
      go_wp2_with fail
      go_ret
      exact ⟨rfl, unhide HB⟩

set_option maxHeartbeats 1600000 in
theorem diffs_any (a b : ByteArray) (w : World) (hG : Glob w) (hw2 : 2 ≤ w.heap.size) :
    Calls Tryz.prog 3 #[.string a, .string b] w fun e w' => e = .returned (.bool true) ∧ Below w.heap.size w w' := by
  have HT : Hid (∀ w1, Below w.heap.size w w1 → Calls Tryz.prog 8 #[.string a, .string b] w1 fun e w' => TwoR w1 a b e w') := fun w1 hb => two_any a b w1 (hG.below hb hw2) (by have := hb.size; omega)
  have HP : Hid (∀ d w1, Below w.heap.size w w1 → Calls Tryz.prog 9 #[.string a, .string d] w1 fun e w' => Below w1.heap.size w1 w' ∧ ∃ s c p, e = .returned (.tuple #[.string s, .int .i64 c, .int .i64 p]) ∧ PatchOut a d s c p) := fun d w1 hb => refPatch_any a d w1 (hG.below hb hw2) (by have := hb.size; omega)
  clear hG
  by_cases h : bothC a b = 0
  · obtain ⟨L, M, ha, hb⟩ := both_ok h
    have HD := hide (diff_ok a b L M w ha hb)
    have HA := hide ha
    have HBO := hide hb
    clear ha hb h
    go_enter Tryz.func3, Tryz.ntmps3
    go_wp2_with fail
    refine (unhide HD).mono ?_
    rintro e w1 ⟨hB1, d, rfl, hds⟩
    have HDF := hide (diff_facts (unhide HA) (unhide HBO) hds)
    have HDP := hide (fun s c p ho => diff_patch (s := s) (c := c) (p := p) (unhide HA) (unhide HBO) hds ho)
    have hdz : d.size ≤ 9000 := (unhide HDF).1
    have HB1 := hide hB1
    clear hB1 hds
    go_wp2_with fail
    refine (unhide HT _ (unhide HB1)).mono ?_
    intro e w2 hr
    unfold TwoR at hr
    rw [unhide HA, unhide HBO] at hr
    obtain ⟨hB2, l, m, u, v, rfl, rfl, hl, hm, hdl, hdm, rfl, ho1, ho2⟩ := hr
    have HB2 := hide ((unhide HB1).trans (hB2.mono (unhide HB1).size))
    have HO1 := hide ho1
    have HO2 := hide ho2
    have HDL := hide hdl
    have HDM := hide hdm
    clear hB2 ho1 ho2 hdl hdm
    go_wp2_with fail
    refine (unhide HP d _ (unhide HB2)).mono ?_
    rintro e w3 ⟨hB3, s, c, p, rfl, ho⟩
    obtain ⟨rfl, rfl, rfl⟩ := unhide HDP _ _ _ ho
    have HB3 := hide ((unhide HB2).trans (hB3.mono (unhide HB2).size))
    have HO1' := hide (row_below (unhide HO1) (fun j hj => ((unhide HO1).lt j hj).2) hB3)
    have HO2' := hide (row_below (unhide HO2) (fun j hj => ((unhide HO2).lt j hj).2) hB3)
    clear hB3 ho HO1 HO2
    go_wp2_with fail
    refine (lawLines_any d _ (by omega)).mono ?_
    rintro e w4 ⟨rfl, hB4⟩
    have HB4 := hide ((unhide HB3).trans (hB4.mono (unhide HB3).size))
    have HO1'' := hide (row_below (unhide HO1') (fun j hj => ((unhide HO1').lt j hj).2) hB4)
    have HO2'' := hide (row_below (unhide HO2') (fun j hj => ((unhide HO2').lt j hj).2) hB4)
    have hcnt : ((d.data.toList.count 10 : Nat) : Int) = (dlR l m : Int) := by rw [(unhide HDF).2.2]; exact dB_rows l m
    have HR := hide (refDist_any l m u v _ _ w4 (by omega) (by omega) (fun x hx => by have := unhide HDL x hx; omega) (fun x hx => by have := unhide HDM x hx; omega) (unhide HO1'') (unhide HO2''))
    clear hB4 HO1' HO2' HO1'' HO2'' HDF HDP HD HT HP HA HBO
    rw [hcnt]
    clear hcnt
    generalize (dlR l m : Int) = dd at *
    go_wp2_with fail
    refine (unhide HR).mono ?_
    rintro e w5 ⟨rfl, hB5⟩
    have HB5 := hide ((unhide HB4).trans (hB5.mono (unhide HB4).size))
    clear hB5
    go_wp2_with fail
    go_ret
    exact ⟨ret_bool (by simp), unhide HB5⟩
  · have HD := hide (diff_err a b w h)
    have htw : ∀ w1 e w', TwoR w1 a b e w' → Below w1.heap.size w1 w' ∧ ∃ u v, e = .returned (.tuple #[u, v, .int .i64 (bothC a b)]) := by
      intro w1 e w' hr
      unfold TwoR at hr
      unfold bothC at h ⊢
      cases ha : outT a with
      | err c p => rw [ha] at hr; exact ⟨hr.1, _, _, hr.2⟩
      | ok L => cases hb : outT b with
        | err c p => rw [ha, hb] at hr; exact hr
        | ok M => rw [ha, hb] at h; exact absurd rfl h
    have HTW := hide htw
    have hc' : (bothC a b != 0) = true := bne_iff_ne.2 h
    clear htw h
    generalize bothC a b = c at *
    go_enter Tryz.func3, Tryz.ntmps3
    go_wp2_with fail
    refine (unhide HD).mono ?_
    rintro e w1 ⟨rfl, hB1⟩
    have HB1 := hide hB1
    clear hB1
    go_wp2_with fail
    refine (unhide HT _ (unhide HB1)).mono ?_
    intro e w2 hr
    obtain ⟨hB2, u, v, rfl⟩ := unhide HTW _ _ _ hr
    have HB2 := hide ((unhide HB1).trans (hB2.mono (unhide HB1).size))
    clear hB2 hr
    go_wp2_with fail
    go_ret
    exact ⟨ret_bool (by simp), unhide HB2⟩

end Go.Proofs.YtdaneedflpfeaaaGreatDoor
