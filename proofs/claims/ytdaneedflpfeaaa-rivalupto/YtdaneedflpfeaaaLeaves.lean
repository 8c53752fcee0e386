import Derived.Test.YtdaneedflpfeaaaOut
import Derived.Lib.Strings
import Derived.Deep.RegionWith
namespace Go.Proofs.Ytdaneedflpfeaaa
set_option maxRecDepth 100000
open Go.RowKit

def hexK (c : Int) : Int := if 48 ≤ c ∧ c ≤ 57 then c - 48 else if 97 ≤ c ∧ c ≤ 102 then c - 87 else -1
theorem hexK_bd (c : Int) : -1 ≤ hexK c ∧ hexK c ≤ 15 := by unfold hexK; split; omega; split <;> omega

set_option maxHeartbeats 400000 in
theorem hex_any (c : Int) (w : World) (h0 : 0 ≤ c) (h1 : c ≤ 255) :
    Calls Try.prog 24 #[.int .u8 c] w fun e w' => e = .returned (.int .i64 (hexK c)) ∧ w' = w := by
  by_cases ha : 48 ≤ c ∧ c ≤ 57
  · have HF : Hid (hexK c = c - 48) := by show hexK c = _; simp [hexK, ha]
    obtain ⟨a1, a2⟩ := ha
    go_enter Try.func24, Try.ntmps24
    go_wp2_with fail
    go_ret
    exact ⟨ret_int (unhide HF).symm, rfl⟩
  · by_cases hb : 97 ≤ c ∧ c ≤ 102
    · have HF : Hid (hexK c = c - 97 + 10) := by show hexK c = _; simp [hexK, ha, hb]; omega
      obtain ⟨a1, a2⟩ := hb
      go_enter Try.func24, Try.ntmps24
      go_wp2_with fail
      go_ret
      exact ⟨ret_int (unhide HF).symm, rfl⟩
    · have HF : Hid (hexK c = -1) := by show hexK c = _; simp [hexK, ha, hb]
      go_enter Try.func24, Try.ntmps24
      go_wp2_with fail
      all_goals go_ret
      all_goals exact ⟨ret_int (unhide HF).symm, rfl⟩

/-- The byte of two digits. -/
def decB (a b : Int) : UInt8 := UInt8.ofNat (IntKind.u8.wrap (16 * hexK a + hexK b)).toNat
/-- What stands in a leaf from a place on, and where it ends. -/
def inL (t : ByteArray) (i : Nat) : List UInt8 × Nat :=
  if _h : i < t.size ∧ bt t i ≠ 32 ∧ bt t i ≠ 41 then
    if bt t i = 92 ∧ i + 3 < t.size then (decB (bt t (i + 2)) (bt t (i + 3)) :: (inL t (i + 4)).1, (inL t (i + 4)).2)
    else (t[i]'_h.1 :: (inL t (i + 1)).1, (inL t (i + 1)).2)
  else ([], i)
  termination_by t.size - i
/-- The leaves, joined, from a place on. -/
theorem inL_ge (t : ByteArray) (i : Nat) : i ≤ (inL t i).2 := by
  induction i using inL.induct t with
  | case1 i h h2 ih => rw [inL, dif_pos h, if_pos h2]; show i ≤ (inL t (i + 4)).2; omega
  | case2 i h h2 ih => rw [inL, dif_pos h, if_neg h2]; show i ≤ (inL t (i + 1)).2; omega
  | case3 i h => rw [inL, dif_neg h]; exact Nat.le_refl i
def outL (t : ByteArray) (i : Nat) : List UInt8 :=
  if _h : i < t.size then
    if bt t i ≠ 39 ∨ bt t (i - 1) ≠ 32 then outL t (i + 1) else (inL t (i + 1)).1 ++ outL t ((inL t (i + 1)).2 + 1)
  else []
  termination_by t.size - i
  decreasing_by
  · omega
  · have := inL_ge t (i + 1); omega

theorem wrap_id (n : Int) (h0 : -1000000000000 ≤ n) (h1 : n ≤ 1000000000000) : IntKind.i64.wrap n = n := by
  rw [IntKind.wrap_i64]; omega
theorem conv_one (w : World) (x : Int) (h0 : 0 ≤ x) (h1 : x ≤ 255) : (convert 37 9 (.slice (some ⟨w.heap.size, 0, none⟩) 1 1)).run Try.prog (w.alloc (.cells #[.int .u8 x] 5)).drew = .ok (.string (mk [UInt8.ofNat x.toNat])) (w.alloc (.cells #[.int .u8 x] 5)).drew := by
  have h : (UInt8.ofNat x.toNat).toNat = x.toNat := by rw [UInt8.toNat_ofNat']; omega
  refine run_convert_bytes_back (l := [UInt8.ofNat x.toNat]) _ 37 9 5 ⟨w.heap.size, 0, none⟩ 1 Try.underlying37 Try.underlying5 Try.underlying9 (fun j hj => ?_)
  have hj0 : j = 0 := by simpa using hj
  subst hj0
  simp only [List.getElem_cons_zero, h, Int.toNat_of_nonneg h0]
  exact news_of (w := w.alloc (.cells #[.int .u8 x] 5)) (heap_alloc_new _ _) 0 _ rfl

set_option maxHeartbeats 3200000 in
theorem leaves_any (t : ByteArray) (w : World) (ht : t.size ≤ 1000000000) (h1 : 1 ≤ t.size) :
    Calls Try.prog 11 #[.string t] w fun e w' => e = .returned (.string (mk (outL t 1))) ∧ Below w.heap.size w w' := by
  go_enter Try.func11, Try.ntmps11
  go_wp2_with fail
  go_loopw [3, 4] (fun v i wr => ∃ (k : Nat) (o : List UInt8) (ob : ByteArray), 1 ≤ k ∧ k ≤ t.size + 1 ∧ i = .int .i64 k ∧ v = .string ob ∧ Hid (ob = mk o) ∧ ob.size ≤ k ∧ Hid (o ++ outL t k = outL t 1) ∧ Below w.heap.size w wr) (fun _ i _ => t.size + 1 - (intOf i).toNat)
  case atStart => exact ⟨1, [], ⟨#[]⟩, by omega, by omega, rfl, rfl, rfl, Nat.zero_le _, rfl, Below.refl _ _⟩
  case round =>
    obtain ⟨k, o, ob, hk1, hk2, rfl, rfl, HO, hos, HE, hB⟩ := hrel
    have HB := hide hB
    have hsz := hB.size
    clear hB
    by_cases hlt : k < t.size
    · have E0 := hide (bt_in hlt)
      have hlt1 : k - 1 < t.size := by omega
      have E1 := hide (bt_in hlt1)
      have HU := hide (outL.eq_1 t k)
      by_cases hq : (t[k].toNat : Int) = 39 ∧ (t[k - 1].toNat : Int) = 32
      · obtain ⟨hq1, hq2⟩ := hq
        have hq1' : ((t[k].toNat : Int) != 39) = false := by simp [hq1]
        have hq2' : ((t[k - 1].toNat : Int) != 32) = false := by simp [hq2]
        have HU2 : Hid (outL t k = (inL t (k + 1)).1 ++ outL t ((inL t (k + 1)).2 + 1)) := by
          show outL t k = _
          rw [unhide HU, dif_pos hlt, if_neg]; rw [unhide E0, unhide E1]; simp [hq1, hq2]
        clear hq1 hq2 HU
        have hki : ((k : Int) - 1).toNat = k - 1 := by omega
        go_wp2_with fail
        have HE2 : Hid (o ++ (inL t (k + 1)).1 ++ outL t ((inL t (k + 1)).2 + 1) = outL t 1) := by
          show o ++ (inL t (k + 1)).1 ++ outL t ((inL t (k + 1)).2 + 1) = outL t 1
          rw [List.append_assoc, ← unhide HU2]; exact unhide HE
        clear HE HU2 hq1' hq2' E0 E1
        go_loopw [3, 4] (fun v i w2 => ∃ (m : Nat) (o2 : List UInt8) (ob2 : ByteArray), k + 1 ≤ m ∧ m ≤ t.size ∧ i = .int .i64 m ∧ v = .string ob2 ∧ Hid (ob2 = mk o2) ∧ ob2.size ≤ m ∧ Hid (o2 ++ (inL t m).1 ++ outL t ((inL t m).2 + 1) = outL t 1) ∧ Below w.heap.size w w2) (fun _ i _ => t.size + 1 - (intOf i).toNat)
        case atStart => exact ⟨k + 1, o, ob, Nat.le_refl _, by omega, by go_num, rfl, HO, by omega, HE2, unhide HB⟩
        case round =>
          clear HO HE2 HB hos hsz hlt1
          obtain ⟨m, o2, ob2, hm1, hm2, rfl, rfl, HO, hos, HE, hB⟩ := hrel
          have HB := hide hB
          have hsz := hB.size
          clear hB
          have HEND : Hid ((inL t m = ([], m)) → ∃ (k' : Nat) (o' : List UInt8) (ob' : ByteArray), 1 ≤ k' ∧ k' ≤ t.size + 1 ∧ Value.int .i64 (↑m + 1) = .int .i64 k' ∧ Value.string ob2 = .string ob' ∧ Hid (ob' = mk o') ∧ ob'.size ≤ k' ∧ Hid (o' ++ outL t k' = outL t 1) ∧ Below w.heap.size w wr) :=
            fun hi => ⟨m + 1, o2, ob2, by omega, by omega, by go_num, rfl, HO, by omega, by show o2 ++ outL t (m + 1) = _; have := unhide HE; rw [hi, List.append_nil] at this; exact this, unhide HB⟩
          by_cases hlt : m < t.size
          · have E0 := hide (bt_in hlt)
            by_cases h32 : (t[m].toNat : Int) = 32
            · have HI : Hid (inL t m = ([], m)) := by show inL t m = _; rw [inL, dif_neg]; rw [unhide E0]; exact fun h => h.2.1 h32
              have h32' : ((t[m].toNat : Int) != 32) = false := by simp [h32]
              clear h32 E0
              go_wp2_with fail
              go_roundw
              case rel => exact unhide HEND (unhide HI)
              case measure => simp [intOf]; omega
            have h32' : ((t[m].toNat : Int) != 32) = true := by simp [h32]
            by_cases h41 : (t[m].toNat : Int) = 41
            · have HI : Hid (inL t m = ([], m)) := by show inL t m = _; rw [inL, dif_neg]; rw [unhide E0]; exact fun h => h.2.2 h41
              have h41' : ((t[m].toNat : Int) != 41) = false := by simp [h41]
              clear h41 h32 E0
              go_wp2_with fail
              go_roundw
              case rel => exact unhide HEND (unhide HI)
              case measure => simp [intOf]; omega
            have h41' : ((t[m].toNat : Int) != 41) = true := by simp [h41]
            have HIN : Hid (inL t m = if bt t m = 92 ∧ m + 3 < t.size then (decB (bt t (m + 2)) (bt t (m + 3)) :: (inL t (m + 4)).1, (inL t (m + 4)).2) else (t[m] :: (inL t (m + 1)).1, (inL t (m + 1)).2)) := by
              show inL t m = _; rw [inL, dif_pos]; rw [unhide E0]; exact ⟨hlt, h32, h41⟩
            clear h32 h41 HEND
            by_cases hbs : (t[m].toNat : Int) = 92 ∧ m + 3 < t.size
            · obtain ⟨h92, hm3⟩ := hbs
              have hm2' : m + 2 < t.size := by omega
              have E2 := hide (bt_in hm2')
              have E3 := hide (bt_in hm3)
              have b2 : ((t[m + 2].toNat : Nat) : Int) ≤ 255 := by have := t[m + 2].toNat_lt; omega
              have b3 : ((t[m + 3].toNat : Nat) : Int) ≤ 255 := by have := t[m + 3].toNat_lt; omega
              have HI : Hid (inL t m = (decB (t[m + 2].toNat : Int) (t[m + 3].toNat : Int) :: (inL t (m + 4)).1, (inL t (m + 4)).2)) := by
                show inL t m = _; rw [unhide HIN, if_pos, unhide E2, unhide E3]; rw [unhide E0]; exact ⟨h92, hm3⟩
              have h92' : ((t[m].toNat : Int) == 92) = true := by simp [h92]
              have k2 : ((m : Int) + 2).toNat = m + 2 := by omega
              have k3 : ((m : Int) + 3).toNat = m + 3 := by omega
              have v2 := hexK_bd (t[m + 2].toNat : Int)
              have v3 := hexK_bd (t[m + 3].toNat : Int)
              have i2 : (m : Int) + 2 < (t.size : Int) := by omega
              have i3 : (m : Int) + 3 < (t.size : Int) := by omega
              have j2 : (0 : Int) ≤ (m : Int) + 2 := by omega
              have j3 : (0 : Int) ≤ (m : Int) + 3 := by omega
              clear h92 HIN E2 E3
              go_wp2_with fail
              have hw2 := wrap_id ((m : Int) + 2) (by omega) (by omega)
              have hw3 := wrap_id ((m : Int) + 3) (by omega) (by omega)
              have ha := wrap_id (16 * hexK (t[m + 2].toNat : Int)) (by omega) (by omega)
              have hb := wrap_id (16 * hexK (t[m + 2].toNat : Int) + hexK (t[m + 3].toNat : Int)) (by omega) (by omega)
              have hx0 := IntKind.wrap_u8 (16 * hexK (t[m + 2].toNat : Int) + hexK (t[m + 3].toNat : Int))
              have hx1 : 0 ≤ IntKind.u8.wrap (16 * hexK (t[m + 2].toNat : Int) + hexK (t[m + 3].toNat : Int)) := by omega
              have hx2 : IntKind.u8.wrap (16 * hexK (t[m + 2].toNat : Int) + hexK (t[m + 3].toNat : Int)) ≤ 255 := by omega
              obtain ⟨cb, hcv, HC, hcs⟩ : ∃ cb : ByteArray, (convert 37 9 (.slice (some ⟨wr.heap.size, 0, none⟩) 1 1)).run Try.prog (wr.alloc (.cells #[.int .u8 (IntKind.u8.wrap (16 * hexK (t[m + 2].toNat : Int) + hexK (t[m + 3].toNat : Int)))] 5)).drew = .ok (.string cb) (wr.alloc (.cells #[.int .u8 (IntKind.u8.wrap (16 * hexK (t[m + 2].toNat : Int) + hexK (t[m + 3].toNat : Int)))] 5)).drew ∧ Hid (cb = mk [decB (t[m + 2].toNat : Int) (t[m + 3].toNat : Int)]) ∧ cb.size ≤ 1 :=
                ⟨_, conv_one wr _ hx1 hx2, rfl, Nat.le_refl _⟩
              have hadd : ob2.size + cb.size ≤ 9223372036854775807 := by omega
              clear hx0 hx1 hx2
              have HX : Hid (ob2 ++ cb = mk (o2 ++ [decB (t[m + 2].toNat : Int) (t[m + 3].toNat : Int)])) := by
                show ob2 ++ cb = _
                rw [unhide HO, unhide HC, mk_append]
              have hend : ∀ wx, Below w.heap.size w wx → ∃ (k' : Nat) (o' : List UInt8) (ob' : ByteArray), k + 1 ≤ k' ∧ k' ≤ t.size ∧ Value.int .i64 (↑m + 3 + 1) = .int .i64 k' ∧ Value.string (ob2 ++ cb) = .string ob' ∧ Hid (ob' = mk o') ∧ ob'.size ≤ k' ∧ Hid (o' ++ (inL t k').1 ++ outL t ((inL t k').2 + 1) = outL t 1) ∧ Below w.heap.size w wx :=
                fun wx hb => ⟨m + 4, o2 ++ [decB (t[m + 2].toNat : Int) (t[m + 3].toNat : Int)], _, by omega, by omega, by go_num, rfl, HX, by rw [ByteArray.size_append]; omega, by
                  show o2 ++ [decB _ _] ++ (inL t (m + 4)).1 ++ outL t ((inL t (m + 4)).2 + 1) = outL t 1
                  have := unhide HE; rw [unhide HI] at this; simpa using this, hb⟩
              have HEND := hide hend
              clear hend HX HI HE
              go_region_with (go_at_call 24; refine (hex_any _ _ (by omega) (by omega)).mono ?_; rintro e w1 ⟨rfl, hw⟩; have hw := hw.symm; subst hw)
              all_goals go_wp2_with fail
              all_goals go_roundw
              all_goals first
                | exact unhide HEND _ (((unhide HB).alloc hsz _).drew)
                | (simp [intOf]; omega)
            · have HI : Hid (inL t m = (t[m] :: (inL t (m + 1)).1, (inL t (m + 1)).2)) := by
                show inL t m = _; rw [unhide HIN, if_neg]; rw [unhide E0]; exact hbs
              have HX : Hid (ob2 ++ t.extract m (m + 1) = mk (o2 ++ [t[m]])) := by
                show ob2 ++ t.extract m (m + 1) = _
                rw [unhide HO, ← mk_append]; congr 1
                apply str_eq
                rw [Go.Lib.extract_toList, mk_toList, List.drop_eq_getElem_cons (by exact hlt)]
                simp
                rfl
              have hend : ∃ (k' : Nat) (o' : List UInt8) (ob' : ByteArray), k + 1 ≤ k' ∧ k' ≤ t.size ∧ Value.int .i64 (↑m + 1) = .int .i64 k' ∧ Value.string (ob2 ++ t.extract m (m + 1)) = .string ob' ∧ Hid (ob' = mk o') ∧ ob'.size ≤ k' ∧ Hid (o' ++ (inL t k').1 ++ outL t ((inL t k').2 + 1) = outL t 1) ∧ Below w.heap.size w wr :=
                ⟨m + 1, o2 ++ [t[m]], _, by omega, by omega, by go_num, rfl, HX, by rw [ByteArray.size_append, ByteArray.size_extract]; omega, by
                  show o2 ++ [t[m]] ++ (inL t (m + 1)).1 ++ outL t ((inL t (m + 1)).2 + 1) = outL t 1
                  have := unhide HE; rw [unhide HI] at this; simpa using this, unhide HB⟩
              have HEND := hide hend
              clear hend HIN E0
              by_cases h92 : (t[m].toNat : Int) = 92
              · have h92' : ((t[m].toNat : Int) == 92) = true := by simp [h92]
                have hm3 : ¬ ((m : Int) + 3 < (t.size : Int)) := fun h => hbs ⟨h92, by omega⟩
                clear hbs h92
                go_wp2_with fail
                go_roundw
                case rel => exact unhide HEND
                case measure => simp [intOf]; omega
              · have h92' : ((t[m].toNat : Int) == 92) = false := by simp [h92]
                clear hbs h92
                go_wp2_with fail
                go_roundw
                case rel => exact unhide HEND
                case measure => simp [intOf]; omega
          · have HI : Hid (inL t m = ([], m)) := by show inL t m = _; rw [inL, dif_neg]; exact fun h => hlt h.1
            go_wp2_with fail
            go_roundw
            case rel => exact unhide HEND (unhide HI)
            case measure => simp [intOf]; omega
      · have HU2 : Hid (outL t k = outL t (k + 1)) := by
          show outL t k = _
          rw [unhide HU, dif_pos hlt, if_pos]; rw [unhide E0, unhide E1]
          rcases Classical.not_and_iff_not_or_not.1 hq with h | h
          · exact .inl h
          · exact .inr h
        clear HU
        have hki : ((k : Int) - 1).toNat = k - 1 := by omega
        have hend : ∀ wx, Below w.heap.size w wx → (∃ (k' : Nat) (o' : List UInt8) (ob' : ByteArray), 1 ≤ k' ∧ k' ≤ t.size + 1 ∧ Value.int .i64 (↑k + 1) = .int .i64 k' ∧ Value.string ob = .string ob' ∧ Hid (ob' = mk o') ∧ ob'.size ≤ k' ∧ Hid (o' ++ outL t k' = outL t 1) ∧ Below w.heap.size w wx) :=
          fun wx hb => ⟨k + 1, o, ob, by omega, by omega, by go_num, rfl, HO, by omega, by show o ++ outL t (k + 1) = _; rw [← unhide HU2]; exact unhide HE, hb⟩
        have HEND := hide hend
        clear hend
        by_cases hq1 : (t[k].toNat : Int) = 39
        · have hq1' : ((t[k].toNat : Int) != 39) = false := by simp [hq1]
          have hq2' : ((t[k - 1].toNat : Int) != 32) = true := by simp; exact fun h => hq ⟨hq1, h⟩
          clear hq hq1
          go_wp2_with fail
          go_roundw
          case rel => exact unhide HEND _ (unhide HB)
          case measure => simp [intOf]; omega
        · have hq1' : ((t[k].toNat : Int) != 39) = true := by simp [hq1]
          clear hq hq1
          go_wp2_with fail
          go_roundw
          case rel => exact unhide HEND _ (unhide HB)
          case measure => simp [intOf]; omega
    · have HU : Hid (outL t k = []) := by show outL t k = _; rw [outL, dif_neg hlt]
      go_wp2_with fail
      go_ret
      exact ⟨ret_str (by rw [unhide HO, ← unhide HE, unhide HU, List.append_nil]), unhide HB⟩

end Go.Proofs.Ytdaneedflpfeaaa
