import Derived.Test.YtabafeckdclekaaGreatDoorPatB
import Derived.Lib.Strings
namespace Go.Proofs.YtabafeckdclekaaGreatDoor
set_option maxRecDepth 100000
open Go.RowKit

/-- The text that is written so; none, if a byte is written otherwise than labels write it. -/
def unL (l : List UInt8) : Option (List UInt8) :=
  if _h : (unB l).2 = 0 then (if l = [] then some [] else none) else (unL (l.drop (unB l).2)).map ((unB l).1 :: ·)
  termination_by l.length
  decreasing_by rw [List.length_drop]; have := unB_le l; omega
theorem unL_nil : unL [] = some [] := by rw [unL]; simp [unB]
theorem unL_no {l : List UInt8} (h : (unB l).2 = 0) (hl : l ≠ []) : unL l = none := by rw [unL, dif_pos h, if_neg hl]
theorem unL_yes {l : List UInt8} (h : (unB l).2 ≠ 0) : unL l = (unL (l.drop (unB l).2)).map ((unB l).1 :: ·) := by rw [unL, dif_neg h]

def unR : Option (List UInt8) → Ending
  | some o => .returned (.tuple #[.string (mk o), .bool true])
  | none => .returned (.tuple #[.string ⟨#[]⟩, .bool false])

set_option maxHeartbeats 1600000 in
theorem unescaped_any (s : ByteArray) (w : World) (hs : s.size ≤ 1000000) :
    Calls Tryz.prog 78 #[.string s] w fun e w' => e = unR (unL s.data.toList) ∧ Below w.heap.size w w' := by
  obtain ⟨i0, hi, hz0, hz1, hz2⟩ := info_parts Tryz.infoU8
  go_enter Tryz.func78, Tryz.ntmps78
  go_wp2_with fail
  go_loopw [4, 5, 6, 7] (fun v i _ _ wr => ∃ (k : Nat) (o : List UInt8), k ≤ s.size ∧ i = .int .i64 k ∧ o.length ≤ k ∧ wr.ownsRow w.heap.size 5 1 v o.length (u8s o) ∧ Hid ((unL (s.data.toList.drop k)).map (o ++ ·) = unL s.data.toList) ∧ Below w.heap.size w wr) (fun _ i _ _ _ => s.size - (intOf i).toNat)
  case atStart => exact ⟨0, [], Nat.zero_le _, rfl, Nat.le_refl _, World.ownsRow_nil _ _ _ _, by show _ = _; rw [List.drop_zero]; simp, Below.refl _ _⟩
  case round =>
    obtain ⟨k, o, hk, rfl, hol, hown, HE, hB⟩ := hrel
    have HO := hide hown
    have HB := hide hB
    have hsz := hB.size
    by_cases hlt : k < s.size
    · clear hown hB
      have HU := hide (fun wx => unescapedByte_any s k wx hs hk)
      have hle := unB_le (s.data.toList.drop k)
      rw [List.length_drop] at hle
      have hle2 : (unB (s.data.toList.drop k)).2 ≤ s.size - k := hle
      have HNE : Hid (s.data.toList.drop k ≠ []) := by show _ ≠ _; rw [drop_at hlt]; simp
      have HY := hide (fun h => unL_yes (l := s.data.toList.drop k) h)
      have HN := hide (fun h => unL_no (l := s.data.toList.drop k) h (unhide HNE))
      have HDD : Hid (∀ n, (s.data.toList.drop k).drop n = s.data.toList.drop (k + n)) := fun n => by rw [List.drop_drop]
      clear hle HNE
      generalize unB (s.data.toList.drop k) = u at *
      obtain ⟨c, n⟩ := u
      by_cases hn : n = 0
      · subst hn
        have HR : Hid (unL s.data.toList = none) := by show _ = _; rw [← unhide HE, unhide HN rfl]; rfl
        clear HE HY HN hle2
        go_wp2_with fail
        refine (unhide HU _).mono ?_
        rintro e w1 ⟨rfl, hw⟩; have hw := hw.symm; subst hw
        go_wp2_with fail
        go_ret2
        rw [unhide HR]
        exact ⟨rfl, unhide HB⟩
      · have hn' : ((n : Int) == 0) = false := by rw [beq_eq_false_iff_ne]; omega
        have HE2 : Hid ((unL (s.data.toList.drop (k + n))).map ((o ++ [c]) ++ ·) = unL s.data.toList) := by
          show _ = _
          rw [← unhide HE, unhide HY hn, ← unhide HDD n]
          simp only [Option.map_map, Function.comp_def, List.append_assoc, List.singleton_append]
        have hle3 : n ≤ s.size - k := hle2
        clear HE HY HN HDD hle2
        go_wp2_with fail
        refine (unhide HU _).mono ?_
        rintro e w1 ⟨rfl, hw⟩; have hw := hw.symm; subst hw
        go_wp2_with (first
          | (at_builtin; refine wpList_append_lies _ rfl (.tmp 20) (.tmp 22) 93 rfl w.heap.size 5 i0 (.int .u8 0) 1 1 Tryz.underlying93 hi hz0 hz1 hz2 rfl (by decide) _ o.length (u8s o) rfl ((unhide HO).alloc _) ⟨wr.heap.size, 0, none⟩ 1 1 [.int .u8 (c.toNat : Int)] rfl rfl (news_of (heap_alloc_new _ _)) (by intro u hu; simp at hu; subst hu; rfl) (by decide) (by unfold maxLen; omega) (by omega) (by simp; omega) _ rfl ?_)
          | fail)
        intro g cap w2 hown2 hgrow _ hlt2
        have hB2 : Below w.heap.size w w2 := ((unhide HB).alloc hsz _).grown hgrow (by simp; omega) (fun j hj => ((unhide HO).lt j hj).1)
        have HB2 := hide hB2
        have HO2 := hide hown2
        clear hown2 hgrow hB2 HO HB
        go_wp2_with fail
        go_roundw
        case rel => exact ⟨k + n, o ++ [c], by omega, by go_num, by simp; omega, by rw [u8s_append, List.length_append]; exact unhide HO2, HE2, unhide HB2⟩
        case measure => simp [intOf]; omega
    · have hcv := conv_own hown
      have HR : Hid (unL s.data.toList = some o) := by
        show _ = _
        rw [← unhide HE, List.drop_of_length_le (by show s.size ≤ k; omega), unL_nil]; simp
      clear hown hB HE
      go_wp2_with fail
      go_ret2
      rw [unhide HR]
      exact ⟨rfl, unhide HB⟩

/-! ## Numbers -/
def digV (l : List UInt8) : Nat := l.foldl (fun n c => n * 10 + (c.toNat - 48)) 0
theorem digV_snoc (l : List UInt8) (c : UInt8) : digV (l ++ [c]) = digV l * 10 + (c.toNat - 48) := by simp [digV]
def allDig (l : List UInt8) : Bool := l.all fun c => digitB (c.toNat : Int)
theorem digV_lt (l : List UInt8) (h : allDig l = true) : digV l < 10 ^ l.length := by
  generalize hn : l.length = n
  induction n generalizing l with
  | zero => have : l = [] := List.eq_nil_of_length_eq_zero hn; subst this; simp [digV]
  | succ n ih =>
    rcases List.eq_nil_or_concat l with rfl | ⟨l, x, rfl⟩
    · simp at hn
    · rw [List.concat_eq_append] at h hn ⊢
      simp only [allDig, List.all_append, Bool.and_eq_true, List.all_cons, List.all_nil] at h
      have := ih l h.1 (by simpa using hn)
      have hd := h.2.1
      simp only [digitB, decide_eq_true_eq] at hd
      rw [digV_snoc, Nat.pow_succ]; omega
theorem digV_bd (l : List UInt8) (h : allDig l = true) (hl : l.length ≤ 6) : digV l ≤ 999999 := by
  have h1 := digV_lt l h
  have h2 : 10 ^ l.length ≤ 10 ^ 6 := Nat.pow_le_pow_right (by decide) hl
  omega
/-- A number of a step: up to six digits, no nought ahead. -/
def numV (l : List UInt8) : Option Nat := if l = [] ∨ 6 < l.length ∨ (l.head? = some 48 ∧ 1 < l.length) then none else if allDig l then some (digV l) else none
theorem numV_bd {l : List UInt8} {n : Nat} (h : numV l = some n) : n ≤ 999999 := by
  unfold numV at h
  split at h
  · cases h
  · rename_i hc
    split at h
    · rename_i hd; cases h; exact digV_bd l hd (by rcases Nat.lt_or_ge 6 l.length with g | g; exact absurd (.inr (.inl g)) hc; exact g)
    · cases h
def numR : Option Nat → Ending
  | some n => .returned (.tuple #[.int .i64 (n : Int), .bool true])
  | none => .returned (.tuple #[.int .i64 0, .bool false])
theorem size0 {s : ByteArray} (h : s.size = 0) : s = ⟨#[]⟩ := by
  cases s with
  | mk d => have : d = #[] := Array.eq_empty_of_size_eq_zero h; rw [this]
theorem toList_ne {s : ByteArray} (h : 0 < s.size) : (s.toList == []) = false := by
  rw [Go.ByteArray.toList_eq, beq_eq_false_iff_ne]
  intro e
  have : s.data.toList.length = 0 := by rw [e]; rfl
  have h2 : s.data.toList.length = s.size := rfl
  omega
theorem head_at {s : ByteArray} (h : 0 < s.size) : s.data.toList.head? = some s[0] := by
  have := drop_at h
  rw [List.drop_zero] at this
  rw [this]; rfl

set_option maxHeartbeats 1600000 in
theorem readNumber_any (s : ByteArray) (w : World) (hs : s.size ≤ 1000000) :
    Calls Tryz.prog 63 #[.string s] w fun e w' => e = numR (numV s.data.toList) ∧ w' = w := by
  by_cases he : s.size = 0
  · have hse := size0 he
    subst hse
    go_enter Tryz.func63, Tryz.ntmps63
    go_wp2_with fail
    go_ret2
    exact ⟨rfl, rfl⟩
  have hpos : 0 < s.size := by omega
  have hne := toList_ne hpos
  have HNE : Hid (s.data.toList ≠ []) := by show _ ≠ _; intro e; have h2 : s.data.toList.length = s.size := rfl; rw [e] at h2; simp at h2; omega
  have HLEN : Hid (s.data.toList.length = s.size) := rfl
  by_cases h6 : 6 < s.size
  · have HV : Hid (numV s.data.toList = none) := by show _ = _; rw [numV, if_pos (.inr (.inl (by rw [unhide HLEN]; exact h6)))]
    go_enter Tryz.func63, Tryz.ntmps63
    go_wp2_with fail
    go_ret2
    rw [unhide HV]
    exact ⟨rfl, rfl⟩
  have HH := hide (head_at hpos)
  by_cases h0 : (s[0].toNat : Int) = 48 ∧ 1 < s.size
  · obtain ⟨h48, h1⟩ := h0
    have HV : Hid (numV s.data.toList = none) := by
      show _ = _
      rw [numV, if_pos (.inr (.inr ⟨by rw [unhide HH]; congr 1; exact UInt8.toNat_inj.1 (by show _ = 48; omega), by rw [unhide HLEN]; exact h1⟩))]
    have h48' : ((s[0].toNat : Int) == 48) = true := by simp [h48]
    clear h48
    go_enter Tryz.func63, Tryz.ntmps63
    go_wp2_with fail
    go_ret2
    rw [unhide HV]
    exact ⟨rfl, rfl⟩
  have HC : Hid (numV s.data.toList = if allDig s.data.toList then some (digV s.data.toList) else none) := by
    show numV _ = _
    rw [numV, if_neg]
    rintro (h | h | ⟨h, h1⟩)
    · exact unhide HNE h
    · rw [unhide HLEN] at h; omega
    · rw [unhide HH] at h
      rw [unhide HLEN] at h1
      refine h0 ⟨?_, h1⟩
      rw [Option.some.inj h]; rfl
  have hor : ((s[0].toNat : Int) == 48) = false ∨ (((s[0].toNat : Int) == 48) = true ∧ ¬ (1 : Int) < (s.size : Int)) := by
    by_cases g : (s[0].toNat : Int) = 48
    · exact .inr ⟨by simp [g], fun h => h0 ⟨g, by omega⟩⟩
    · exact .inl (by simp [g])
  clear HH h0 HNE
  rcases hor with hz | ⟨hz1, hz⟩
  all_goals
    go_enter Tryz.func63, Tryz.ntmps63
    go_wp2_with fail
    go_loop [4, 5] (fun v i => ∃ k : Nat, k ≤ s.size ∧ i = .int .i64 k ∧ v = .int .i64 (digV (s.data.toList.take k) : Int) ∧ Hid (allDig (s.data.toList.take k) = true) ∧ digV (s.data.toList.take k) ≤ 999999) (fun _ i => s.size - (intOf i).toNat)
    case atStart => exact ⟨0, Nat.zero_le _, rfl, rfl, rfl, Nat.zero_le _⟩
    case round =>
      obtain ⟨k, hk, rfl, rfl, HA, hbd⟩ := hrel
      by_cases hlt : k < s.size
      · have HT := hide (take_snocB s k hlt)
        have hb : ((s[k].toNat : Nat) : Int) ≤ 255 := by have := s[k].toNat_lt; omega
        cases hd : digitB (s[k].toNat : Int) with
        | true =>
          have hdd : 48 ≤ (s[k].toNat : Int) ∧ (s[k].toNat : Int) ≤ 57 := by simpa [digitB] using hd
          have hw0 := IntKind.wrap_u8 ((s[k].toNat : Int) - 48)
          have hw : IntKind.u8.wrap ((s[k].toNat : Int) - 48) = (s[k].toNat : Int) - 48 := by omega
          have HA2 : Hid (allDig (s.data.toList.take (k + 1)) = true) := by
            show _ = _
            have := unhide HA
            rw [unhide HT]; simp only [allDig, List.all_append, Bool.and_eq_true] at this ⊢; exact ⟨this, by simp [hd]⟩
          have HV2 : Hid ((digV (s.data.toList.take (k + 1)) : Int) = (digV (s.data.toList.take k) : Int) * 10 + ((s[k].toNat : Int) - 48)) := by
            show _ = _
            rw [unhide HT, digV_snoc]; omega
          have hbd2 : digV (s.data.toList.take (k + 1)) ≤ 999999 := digV_bd _ (unhide HA2) (by have := List.length_take_le (k + 1) s.data.toList; omega)
          clear hw0
          generalize digV (s.data.toList.take k) = V at *
          go_wp2_with (first
            | (go_at_call 56; refine (isDigit_any _ _ (by omega) (by omega)).mono ?_; rintro e w1 ⟨rfl, hw⟩; have hw := hw.symm; subst hw)
            | fail)
          go_round
          case rel => exact ⟨k + 1, by omega, by go_num, by rw [unhide HV2], HA2, hbd2⟩
          case measure => simp [intOf]; omega
        | false =>
          have HV : Hid (numV s.data.toList = none) := by
            show _ = _
            rw [unhide HC, if_neg]
            intro h
            have h1 := List.all_eq_true.1 h s[k] (by have : s[k] ∈ s.data.toList := List.getElem_mem (show k < s.data.toList.length from hlt); exact this)
            rw [hd] at h1; cases h1
          go_wp2_with (first
            | (go_at_call 56; refine (isDigit_any _ _ (by omega) (by omega)).mono ?_; rintro e w1 ⟨rfl, hw⟩; have hw := hw.symm; subst hw)
            | fail)
          go_ret2
          rw [unhide HV]
          exact ⟨rfl, rfl⟩
      · have HT : Hid (s.data.toList.take k = s.data.toList) := List.take_of_length_le (by show s.size ≤ k; omega)
        have HV : Hid (numV s.data.toList = some (digV (s.data.toList.take k))) := by
          show _ = _
          rw [unhide HC, unhide HT, if_pos]; have := unhide HA; rw [unhide HT] at this; exact this
        generalize digV (s.data.toList.take k) = V at *
        go_wp2_with fail
        go_ret2
        rw [unhide HV]
        exact ⟨rfl, rfl⟩

end Go.Proofs.YtabafeckdclekaaGreatDoor
