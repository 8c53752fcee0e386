import Derived.Test.YtabafeckdclekaaGreatDoorPatS
namespace Go.Proofs.YtabafeckdclekaaGreatDoor
set_option maxRecDepth 100000
open Go.RowKit

inductive RunR where
  | bad (line : Nat) | ok (l : List Nd)
theorem lineE_ge (s : ByteArray) (i : Nat) (hi : i ≤ s.size) : i ≤ runE noLf s i ∧ runE noLf s i ≤ s.size := by
  induction i using runE.induct noLf s with
  | case1 i h ih => rw [runE, dif_pos h]; have := ih (by omega); omega
  | case2 i h => rw [runE, dif_neg h]; omega
/-- The bytes of a line. -/
def lineL (d : ByteArray) (a : Nat) : List UInt8 := (d.data.toList.drop a).take (runE noLf d a - a)
/-- A script, line by line. -/
def scrN (d : ByteArray) (l : List Nd) (a line : Nat) : RunR :=
  if _h : a < d.size then
    (if _h2 : runE noLf d a < d.size then
      match stepW (splitL 32 (lineL d a)) with
      | none => .bad line
      | some st => match stepN l st with
        | none => .bad line
        | some m => scrN d m (runE noLf d a + 1) (line + 1)
    else .bad line)
  else .ok l
  termination_by d.size - a
  decreasing_by have := lineE_ge d a (by omega); omega

def CarryR (w : World) (r : RunR) (e : Ending) (w' : World) : Prop := Below w.heap.size w w' ∧ match r with
  | .bad n => e = .returned (.tuple #[.slice none 0 0, .int .i64 (n : Int)])
  | .ok L => ∃ g cap, e = .returned (.tuple #[.slice (some ⟨g, 0, none⟩) L.length cap, .int .i64 0]) ∧ NA w' g 0 L

set_option maxHeartbeats 6400000 in
theorem carryOut_any (l : List Nd) (d : ByteArray) (g cap : Nat) (w : World) (hds : d.size ≤ 9000) (hf : Fine 0 l) (hcap : l.length ≤ cap) (hcm : cap ≤ maxLen) (hn : NA w g 0 l) :
    Calls Tryz.prog 7 #[.slice (some ⟨g, 0, none⟩) l.length cap, .string d] w fun e w' => CarryR w (scrN d l 0 1) e w' := by
  have HN := hide hn
  have HF := hide hf
  clear hn hf
  go_enter Tryz.func7, Tryz.ntmps7
  go_wp2_with fail
  go_loopw [0, 6, 7, 8, 9, 10, 11, 12] (fun v ln i _ _ _ _ _ wr => ∃ (L : List Nd) (g cap a n : Nat), a ≤ d.size ∧ n ≤ a ∧ v = .slice (some ⟨g, 0, none⟩) L.length cap ∧ L.length ≤ cap ∧ cap ≤ maxLen ∧ ln = .int .i64 ((n : Int) + 1) ∧ i = .int .i64 a ∧ NA wr g 0 L ∧ Hid (Fine n L) ∧ Hid (scrN d L a (n + 1) = scrN d l 0 1) ∧ Below w.heap.size w wr) (fun _ _ i _ _ _ _ _ _ => d.size - (intOf i).toNat)
  case atStart => exact ⟨l, g, cap, 0, 0, Nat.zero_le _, Nat.zero_le _, rfl, hcap, hcm, rfl, rfl, unhide HN, HF, rfl, Below.refl _ _⟩
  case round =>
    clear HN HF hcap hcm
    obtain ⟨L, g, cap, a, n, ha, hna, rfl, hcap, hcm, rfl, rfl, hn, HF, HE, hB⟩ := hrel
    have HN := hide hn
    have hgl := hn.lt
    have HB := hide hB
    have hsz := hB.size
    clear hn hB
    by_cases hlt : a < d.size
    · have hge := lineE_ge d a ha
      have HLE := hide (fun wx => lineEndW_any d (a : Int) wx (by omega) (by omega) (by omega))
      have HU := hide (scrN.eq_1 d L a (n + 1))
      have HLN : Hid (lineL d a = (d.data.toList.drop a).take (runE noLf d a - a)) := rfl
      rw [Int.toNat_natCast] at HLE
      by_cases he : runE noLf d a < d.size
      · have HU2 : Hid (scrN d L a (n + 1) = match stepW (splitL 32 (lineL d a)) with
          | none => .bad (n + 1)
          | some st => match stepN L st with
            | none => .bad (n + 1)
            | some m => scrN d m (runE noLf d a + 1) (n + 1 + 1)) := by show _ = _; rw [unhide HU, dif_pos hlt, dif_pos he]
        have hls : (lineL d a).length ≤ 9000 := by rw [unhide HLN]; have := List.length_take_le (runE noLf d a - a) (d.data.toList.drop a); omega
        have HX : Hid (d.extract a (runE noLf d a) = mk (lineL d a)) := by show _ = _; rw [ext_mk]; rfl
        have hxs : (d.extract a (runE noLf d a)).size ≤ 1000000 := by rw [ByteArray.size_extract]; omega
        have HRS : Hid (∀ wx, Calls Tryz.prog 19 #[.string (d.extract a (runE noLf d a))] wx fun e w' => Below wx.heap.size wx w' ∧ ∃ kd x y z bb t ok, e = .returned (.tuple #[.agg (stA kd x y z bb t), .bool ok]) ∧ StIs (stepW (splitL 32 (lineL d a))) (stA kd x y z bb t) ok) := fun wx => by
          have := readStep_any (d.extract a (runE noLf d a)) wx hxs
          rw [unhide HX] at this ⊢
          exact this
        have HSM := hide (fun st h => stepW_small (l := lineL d a) (st := st) (by omega) h)
        clear HU HX hxs HLN
        generalize stepW (splitL 32 (lineL d a)) = sw at *
        generalize runE noLf d a = z at *
        go_wp2_with fail
        refine (unhide HLE _).mono ?_
        rintro e w1 ⟨rfl, hw⟩; have hw := hw.symm; subst hw
        go_wp2_with fail
        refine (unhide HRS _).mono ?_
        rintro e w1 ⟨hB1, kd, x0, x1, x2, bb, tt, ok, rfl, hst⟩
        have HB1 : Hid (Below w.heap.size w w1) := (unhide HB).trans (hB1.mono hsz)
        have hsz1 := hB1.size
        have HN1 := hide ((unhide HN).below hB1 hgl)
        clear hB1
        cases sw with
        | none =>
          have hok : ok = false := hst
          subst hok
          have HR : Hid (scrN d l 0 1 = .bad (n + 1)) := by show _ = _; rw [← unhide HE, unhide HU2]
          clear HU2 HE hst HSM
          go_wp2_with fail
          go_ret2
          rw [unhide HR]
          exact ⟨(unhide HB1).alloc (by omega) _, rfl⟩
        | some st =>
          obtain ⟨rfl, hcs⟩ := hst
          have hsm := unhide HSM st rfl
          have HNX : Hid (∀ o, NA (w1.alloc o) g 0 L) := fun o => (unhide HN1).heap (heap_alloc_old _ _ (unhide HN1).lt)
          have HFL := (unhide HF).2.1
          have HSC : Hid (∀ wx, NA wx g 0 L → Calls Tryz.prog 20 #[.agg (stA kd x0 x1 x2 bb tt), .slice (some ⟨g, 0, none⟩) L.length cap] wx fun e w' => ListR wx (stepN L st) e w') := fun wx hx => by
            rw [hcs]
            exact stepCarry_any st L g cap wx hsm (by omega) hcap hcm ((unhide HF).deep (by omega)) hx
          have HFN := hide (fun m h => stepN_fine (m := m) (unhide HF) hsm h)
          clear hcs HSM hsm
          go_wp2_with fail
          refine (unhide HSC _ (unhide HNX _)).mono ?_
          intro e w2 hr
          obtain ⟨hB2, h3⟩ := hr
          have HB2 : Hid (Below w.heap.size w w2) := ((unhide HB1).alloc (by omega) _).trans (hB2.mono (by simp; omega))
          have hsz2 : w1.heap.size < w2.heap.size := by have := hB2.size; simp at this; omega
          clear hB2
          cases ho : stepN L st with
          | none =>
            rw [ho] at h3
            have h3' : e = .returned (.tuple #[.slice none 0 0, .bool false]) := h3
            subst h3'
            have HR : Hid (scrN d l 0 1 = .bad (n + 1)) := by show _ = _; rw [← unhide HE, unhide HU2]; simp only [ho]
            clear h3 HU2 HE ho HFN HSC
            go_wp2_with fail
            go_ret2
            rw [unhide HR]
            exact ⟨unhide HB2, rfl⟩
          | some m =>
            rw [ho] at h3
            obtain ⟨v, h3', hown⟩ := h3
            subst h3'
            have HFM := hide (unhide HFN m ho)
            rcases row_form hown with ⟨_, h0⟩ | ⟨g2, cap2, rfl, hg2⟩
            · have := (unhide HFM).1; omega
            have HE2 : Hid (scrN d m (z + 1) (n + 1 + 1) = scrN d l 0 1) := by show _ = _; rw [← unhide HE, unhide HU2]; simp only [ho]
            have HNM := hide (NA.of_own hown hg2 rfl)
            have hcc := own_cap hown
            clear HU2 HE ho HFN HSC hown
            go_wp2_with fail
            go_roundw
            case rel => exact ⟨m, g2, cap2, z + 1, n + 1, by omega, by omega, rfl, hcc.1, hcc.2, by go_num, by go_num, unhide HNM, HFM, HE2, unhide HB2⟩
            case measure => simp [intOf]; omega
      · have HR : Hid (scrN d l 0 1 = .bad (n + 1)) := by show _ = _; rw [← unhide HE, unhide HU, dif_pos hlt, dif_neg he]
        clear HU HE HLN
        generalize runE noLf d a = z at *
        go_wp2_with fail
        refine (unhide HLE _).mono ?_
        rintro e w1 ⟨rfl, hw⟩; have hw := hw.symm; subst hw
        go_wp2_with fail
        go_ret2
        rw [unhide HR]
        exact ⟨unhide HB, rfl⟩
    · have HR : Hid (scrN d l 0 1 = .ok L) := by show _ = _; rw [← unhide HE, scrN, dif_neg hlt]
      clear HE
      go_wp2_with fail
      go_ret2
      rw [unhide HR]
      exact ⟨unhide HB, g, cap, rfl, unhide HN⟩

end Go.Proofs.YtabafeckdclekaaGreatDoor
