import Derived.Test.YtdaneedflpfeaaaKeepR
namespace Go.Proofs.Ytdaneedflpfeaaa
set_option maxRecDepth 100000
open Go.RowKit

set_option maxHeartbeats 3200000 in
theorem blank_small (s c : ByteArray) (w : World) (hc : c.size ≤ 20) : Calls Try.prog 7 #[.string s, .string c] w fun e w' => e = .returned (.bool true) ∧ Below w.heap.size w w' := by
  have HAL := hide (alive_any w)
  have HP : Hid (∀ s w1, Calls Try.prog 9 #[.string s] w1 fun e w' => e = .returned (.bool (isOk (outT s))) ∧ Below w1.heap.size w1 w') := fun s w1 => program_any s w1
  have HD : Hid (∀ s t w1, Calls Try.prog 13 #[.string s, .string t] w1 fun e w' => e = .returned (.tuple #[.int .i64 (distT s t).1, .int .i64 (distT s t).2]) ∧ Below w1.heap.size w1 w') := fun s t w1 => dist_any s t w1
  go_enter Try.func7, Try.ntmps7
  go_wp2_with fail
  refine (unhide HAL).mono ?_
  rintro e w1 ⟨rfl, hB1⟩
  have HB1 := hide hB1
  clear hB1 HAL
  go_wp2_with fail
  refine (unhide HP s _).mono ?_
  rintro e w2 ⟨rfl, hB2⟩
  have HB2 := hide ((unhide HB1).trans (hB2.mono (unhide HB1).size))
  clear hB2 HB1
  cases ha : isOk (outT s) with
  | false =>
    clear ha
    go_wp2_with fail
    go_ret
    exact ⟨rfl, unhide HB2⟩
  | true =>
    obtain ⟨la, hla⟩ := isOk_prg ha
    have hs6 : s.size ≤ 600 := by obtain ⟨_, _, h, _⟩ := outT_mod hla.out; exact h
    have HLA := hide hla
    clear ha hla
    by_cases h0 : s.size = 0
    · have he1 : s.toList = [] := by
        rw [toList_data]
        exact List.length_eq_zero_iff.1 h0
      go_wp2_with fail
      go_ret
      exact ⟨rfl, unhide HB2⟩
    · obtain ⟨m, hm⟩ : ∃ m, s.size = m + 1 := ⟨s.size - 1, by omega⟩
      have he1 : (s.toList = []) = False := eq_false (by
        rw [toList_data]
        intro e
        exact h0 (List.length_eq_zero_iff.2 e))
      have he2 : s.toList.isEmpty = false := by
        rw [List.isEmpty_eq_false_iff]; exact of_eq_false he1
      have hms : m < s.size := by omega
      clear h0
      by_cases h125 : ((s[m]'hms).toNat : Int) = 125
      · cases hp : isOk (outT (s.extract 0 m)) with
        | true =>
          go_wp2_with fail
          refine (unhide HP _ _).mono ?_
          rw [hp]
          rintro e w3 ⟨rfl, hB3⟩
          have HB3 := hide ((unhide HB2).trans (hB3.mono (unhide HB2).size))
          clear hB3 HB2
          go_wp2_with fail
          go_ret
          exact ⟨rfl, unhide HB3⟩
        | false =>
          have HFA := hide (blk_facts (unhide HLA) hm (by rw [bt_in hms]; exact h125) hp c)
          go_wp2_with fail
          refine (unhide HP _ _).mono ?_
          rw [hp]
          rintro e w3 ⟨rfl, hB3⟩
          have HB3 := hide ((unhide HB2).trans (hB3.mono (unhide HB2).size))
          clear hB3 HB2 he1 he2 h125 hp hms HLA
          have hcv : ∀ (T : ByteArray) (w : World), (convert 9 37 (.string T)).run Try.prog w = .ok (.slice (some ⟨w.heap.size, 0, none⟩) T.size (grownCap w T.size 0 5)) (Go.Lib.bytesWorld w 5 T) := fun T w => Go.Lib.run_convert_string_bytes (P := Try.prog) w 9 37 5 T Try.underlying9 Try.underlying37 Try.underlying5
          · have HSB : Hid (c.data.toList.map tblB = blkL c) := by
              show _ = _
              unfold blkL; rw [List.take_of_length_le (show c.data.toList.length ≤ 20 from hc)]
            have HBS := hide (BS.made w3 c)
            have HBW := hide (bytes_below w3 c)
            go_wp2_with fail
            generalize grownCap w3 c.size 0 5 = cap at *
            clear hcv
            have HM := hide hm
            clear hm
            go_loopw [6, 7, 44] (fun _ _ kv wr => ∃ k : Nat, k ≤ c.size ∧ kv = .int .i64 (k : Int) ∧ BS wr w3.heap.size ((c.data.toList.map tblB).take k ++ c.data.toList.drop k) ∧ Below w3.heap.size w3 wr) (fun _ _ kv _ => c.size - (intOf kv).toNat)
            case atStart =>
              exact ⟨0, Nat.zero_le _, rfl, by simpa using unhide HBS, unhide HBW⟩
            case round =>
              clear HBS HBW
              obtain ⟨i, h2, rfl, hbs, hB⟩ := hrel
              have hlen : (c.data.toList.map tblB).length = c.data.toList.length := List.length_map ..
              by_cases hlt : i < c.size
              · have hiS : i < c.data.toList.length := hlt
                have hiW : i < (c.data.toList.map tblB).length := by rw [hlen]; exact hlt
                obtain ⟨x, hx⟩ : ∃ x, c.data.toList[i]? = some x := ⟨_, List.getElem?_eq_getElem hiS⟩
                have hz : ((c.data.toList.map tblB).take i ++ c.data.toList.drop i)[i]? = some x := by
                  rw [List.getElem?_append_right (by rw [List.length_take]; omega), List.length_take, Nat.min_eq_left (by omega), Nat.sub_self, List.getElem?_drop, Nat.add_zero]; exact hx
                obtain ⟨k1, k2⟩ := hbs.cell hz
                have hw : (c.data.toList.map tblB)[i]? = some (tblB x) := tab_get hx
                have hw' : (c.data.toList.map tblB)[i]'hiW = tblB x := by
                  rw [List.getElem?_eq_getElem hiW] at hw; exact Option.some.inj hw
                have HNEW : Hid (BS (wr.setCell ⟨w3.heap.size, i, none⟩ (.int .u8 ((tblB x).toNat : Int))) w3.heap.size ((c.data.toList.map tblB).take (i + 1) ++ c.data.toList.drop (i + 1)) ∧ Below w3.heap.size w3 (wr.setCell ⟨w3.heap.size, i, none⟩ (.int .u8 ((tblB x).toNat : Int)))) := by
                  refine ⟨?_, hB.setCell (p := ⟨w3.heap.size, i, none⟩) (Nat.le_refl _) _⟩
                  rw [← set_take hlen hiW, hw']
                  exact hbs.set (by rw [List.length_append, List.length_take, List.length_drop]; omega) _
                have ha := and7 x
                have HT := hide (tblB_cases x)
                clear hiS hiW hlen hx hz hw hw' hbs hB HSB
                rcases unhide HT with ⟨e1, e2⟩ | ⟨e1, e2⟩ | ⟨e1, e2⟩ | ⟨e1, e2⟩ | ⟨e1, e2⟩ | ⟨e1, e2⟩ | ⟨e1, e2⟩ | ⟨e1, e2⟩
                all_goals
                  rw [e1] at ha
                  rw [e2] at HNEW
                  clear HT e1 e2
                  go_wp2_with fail
                  go_roundw
                  case rel => exact ⟨i + 1, by omega, by go_num, (unhide HNEW).1, (unhide HNEW).2⟩
                  case measure => simp [intOf]; omega
              · have hi : i = c.size := by omega
                have hall : (c.data.toList.map tblB).take i ++ c.data.toList.drop i = blkL c := by
                  rw [List.take_of_length_le (by rw [hlen]; show c.size ≤ i; omega), List.drop_of_length_le (by show c.size ≤ i; omega), List.append_nil]
                  exact unhide HSB
                have hsz : c.size = (blkL c).length := by rw [← unhide HSB, hlen]; rfl
                rw [hall] at hbs
                have HBK : Hid (∀ wx : World, wx.heap[w3.heap.size]? = wr.heap[w3.heap.size]? → (convert 37 9 (.slice (some ⟨w3.heap.size, 0, none⟩) c.size cap)).run Try.prog wx = .ok (.string (mk (blkL c))) wx) := fun wx hwx => by
                  have hbx : BS wx w3.heap.size (blkL c) := by
                    obtain ⟨C, fr, q1, q2, q3⟩ := hbs.ex
                    exact ⟨C, fr, hwx.trans q1, q2, q3⟩
                  have := run_convert_bytes_back (P := Try.prog) wx 37 9 5 ⟨w3.heap.size, 0, none⟩ cap (blkL c) Try.underlying37 Try.underlying5 Try.underlying9 (fun j hj => by
                    have e : (⟨w3.heap.size, 0, none⟩ : Addr).add j = ⟨w3.heap.size, j, none⟩ := by unfold Addr.add; split <;> simp_all
                    rw [e]
                    exact (hbx.cell (List.getElem?_eq_getElem hj)).1)
                  rw [← hsz] at this
                  exact this
                have hbn : w3.heap.size < wr.heap.size := by
                  obtain ⟨C, fr, q1, _, _⟩ := hbs.ex
                  exact (Array.getElem?_eq_some_iff.1 q1).1
                have HB := hide ((unhide HB3).trans (hB.mono (unhide HB3).size))
                have HWD := hide (fun w1 => word_any c w1)
                have HCL := hide (fun w1 => clean_any (mk (blkL c)) w1 (by rw [mk_size]; have := (blk_le c).1; omega))
                have zW : (mk (wordL c.data.toList)).size ≤ 9 := by rw [mk_size]; exact word_len _
                have zZ : (mk (noSl (blkL c))).size ≤ 20 := by rw [mk_size]; exact (blk_le c).2
                have hm := unhide HM
                obtain ⟨p, hpp⟩ : ∃ p, s.extract 0 m = p := ⟨_, rfl⟩
                have zp : p.size ≤ 600 := by rw [← hpp, ByteArray.size_extract]; omega
                obtain ⟨t1, ht1⟩ : ∃ t1, p ++ (⟨#[47, 47]⟩ : ByteArray) = t1 := ⟨_, rfl⟩
                obtain ⟨t2, ht2⟩ : ∃ t2, t1 ++ mk (wordL c.data.toList) = t2 := ⟨_, rfl⟩
                obtain ⟨t3, ht3⟩ : ∃ t3, t2 ++ (⟨#[10, 47, 42]⟩ : ByteArray) = t3 := ⟨_, rfl⟩
                obtain ⟨t4, ht4⟩ : ∃ t4, t3 ++ mk (noSl (blkL c)) = t4 := ⟨_, rfl⟩
                obtain ⟨t5, ht5⟩ : ∃ t5, t4 ++ (⟨#[32, 42, 47, 125]⟩ : ByteArray) = t5 := ⟨_, rfl⟩
                have HF := hide (unhide HFA t5 (by rw [← ht5, ← ht4, ← ht3, ← ht2, ← ht1, ← hpp]; exact blk_text s m _ _))
                have z1 : t1.size ≤ 602 := by rw [← ht1, ByteArray.size_append]; have : (⟨#[47, 47]⟩ : ByteArray).size = 2 := rfl; omega
                have z2 : t2.size ≤ 611 := by rw [← ht2, ByteArray.size_append]; omega
                have z3 : t3.size ≤ 614 := by rw [← ht3, ByteArray.size_append]; have : (⟨#[10, 47, 42]⟩ : ByteArray).size = 3 := rfl; omega
                have z4 : t4.size ≤ 634 := by rw [← ht4, ByteArray.size_append]; omega
                have z5 : t5.size ≤ 638 := by rw [← ht5, ByteArray.size_append]; have : (⟨#[32, 42, 47, 125]⟩ : ByteArray).size = 4 := rfl; omega
                clear hlen hall hbs hB hi HFA HSB hsz HM HB3
                change Hid (∀ w1, Calls Try.prog 17 #[.string (mk (blkL c))] w1 fun e w' => e = .returned (.string (mk (noSl (blkL c)))) ∧ w' = w1) at HCL
                generalize mk (noSl (blkL c)) = Z at *
                generalize mk (blkL c) = R at *
                generalize mk (wordL c.data.toList) = W at *
                have HS0 : Hid ((convert 37 9 (.slice (some ⟨w3.heap.size, 0, none⟩) c.size cap)).run Try.prog wr.drew = .ok (.string R) wr.drew) := unhide HBK _ rfl
                have g1 : (IntKind.i64.max < (p.size : Int) + 2) = False := eq_false (by show ¬ ((9223372036854775807 : Int) < _); omega)
                have g1' : ((9223372036854775807 : Int) < (p.size : Int) + 2) = False := eq_false (by omega)
                have g2 : (IntKind.i64.max < (t1.size : Int) + (W.size : Int)) = False := eq_false (by show ¬ ((9223372036854775807 : Int) < _); omega)
                have g2' : ((9223372036854775807 : Int) < (t1.size : Int) + (W.size : Int)) = False := eq_false (by omega)
                have g3 : (IntKind.i64.max < (t2.size : Int) + 3) = False := eq_false (by show ¬ ((9223372036854775807 : Int) < _); omega)
                have g3' : ((9223372036854775807 : Int) < (t2.size : Int) + 3) = False := eq_false (by omega)
                have g4 : (IntKind.i64.max < (t3.size : Int) + (Z.size : Int)) = False := eq_false (by show ¬ ((9223372036854775807 : Int) < _); omega)
                have g4' : ((9223372036854775807 : Int) < (t3.size : Int) + (Z.size : Int)) = False := eq_false (by omega)
                have g5 : (IntKind.i64.max < (t4.size : Int) + 4) = False := eq_false (by show ¬ ((9223372036854775807 : Int) < _); omega)
                have g5' : ((9223372036854775807 : Int) < (t4.size : Int) + 4) = False := eq_false (by omega)
                have g6 : ((m : Int) ≤ (m : Int) + 1) = True := eq_true (by omega)
                have g7 : ((m : Int) ≤ (s.size : Int)) = True := eq_true (by omega)
                have g8 : ((0 : Int) ≤ (m : Int)) = True := eq_true (by omega)
                have g9 : IntKind.i64.wrap (m : Int) = (m : Int) := by rw [IntKind.wrap_i64]; omega
                go_wp2_with fail
                go_region_held (fun wq => (convert 37 9 (.slice (some ⟨w3.heap.size, 0, none⟩) c.size cap)).run Try.prog wq = .ok (.string R) wq) (first | exact unhide HS0 | exact unhide HS7) (first | (go_at_call 16; refine (unhide HWD _).mono ?_; rintro e w7 ⟨rfl, hB7⟩; have HB7 : Hid (Below w.heap.size w w7) := ((unhide HB).drew).trans (hB7.mono (unhide HB).size); have HS7 := hide (unhide HBK w7 (hB7.block _ hbn)); clear hB7) | (go_at_call 17; refine (unhide HCL _).mono ?_; rintro e w8 ⟨rfl, rfl⟩))
                all_goals
                  clear g1 g1' g2 g2' g3 g3' g4 g4' g5 g5'
                  rcases unhide HF with ⟨f1, f2, f3⟩ | ⟨f1, f2⟩
                  · go_wp2_with fail
                    refine (unhide HP t5 _).mono ?_
                    rw [f2]
                    rintro e w9 ⟨rfl, hB9⟩
                    have HB9 := hide ((unhide HB7).trans (hB9.mono (unhide HB7).size))
                    clear hB9 HB7
                    go_wp2_with fail
                    refine (unhide HD _ _ _).mono ?_
                    rw [f3]
                    rintro e w10 ⟨rfl, hB10⟩
                    have HB10 := hide ((unhide HB9).trans (hB10.mono (unhide HB9).size))
                    clear hB10 HB9
                    go_wp2_with fail
                    go_ret
                    exact ⟨rfl, unhide HB10⟩
                  · go_wp2_with fail
                    refine (unhide HP t5 _).mono ?_
                    rw [f2]
                    rintro e w9 ⟨rfl, hB9⟩
                    have HB9 := hide ((unhide HB7).trans (hB9.mono (unhide HB7).size))
                    clear hB9 HB7
                    go_wp2_with fail
                    go_ret
                    exact ⟨ret_bool (by first | rfl | (simp; done) | (simp; omega)), unhide HB9⟩
      · go_wp2_with fail
        go_ret
        exact ⟨rfl, unhide HB2⟩

end Go.Proofs.Ytdaneedflpfeaaa
