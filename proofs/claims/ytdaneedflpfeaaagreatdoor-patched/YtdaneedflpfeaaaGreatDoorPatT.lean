import Derived.Test.YtdaneedflpfeaaaGreatDoorPatR
namespace Go.Proofs.YtdaneedflpfeaaaGreatDoor
set_option maxRecDepth 100000
open Go.RowKit

def stepN (l : List Nd) : Stp → Option (List Nd)
  | .ren k b t => renN l k b t
  | .del k => remN l k
  | .ins p i n b t => insN l p i n b t
def Stp.small : Stp → Prop
  | .ren k _ t => k ≤ 999999 ∧ t.size ≤ 10000
  | .del k => k ≤ 999999
  | .ins p i n _ t => p ≤ 999999 ∧ i ≤ 999999 ∧ n ≤ 999999 ∧ t.size ≤ 10000
theorem ListR.up {w w1 w' : World} {o : Option (List Nd)} {e : Ending} (h : ListR w1 o e w') (hb : Below w.heap.size w w1) : ListR w o e w' := by
  obtain ⟨h1, h2⟩ := h
  refine ⟨hb.trans (h1.mono hb.size), ?_⟩
  cases o with
  | none => exact h2
  | some m => obtain ⟨v, e1, h3⟩ := h2; exact ⟨v, e1, ownsRow_base h3 hb.size⟩

set_option maxHeartbeats 3200000 in
theorem stepCarry_any (st : Stp) (l : List Nd) (g cap : Nat) (w : World) (hs : st.small) (hl : l.length ≤ 1000000) (hcap : l.length ≤ cap) (hcm : cap ≤ maxLen) (hd : Deep l) (hn : NA w g 0 l) :
    Calls Tryz.prog 53 #[.agg st.cells, .slice (some ⟨g, 0, none⟩) l.length cap] w fun e w' => ListR w (stepN l st) e w' := by
  have HNX : Hid (∀ o, NA (w.alloc o) g 0 l) := fun o => hn.heap (heap_alloc_old _ _ hn.lt)
  have HUP : Hid (∀ o r e w', ListR (w.alloc o) r e w' → ListR w r e w') := fun o r e w' h => h.up ((Below.refl _ _).alloc (Nat.le_refl _) _)
  have HD := hide hd
  clear hn hd
  cases st with
  | ren k b t =>
    obtain ⟨h1, h2⟩ := hs
    show Calls _ _ #[.agg (stA ⟨#[114]⟩ k 0 0 b t), _] _ fun e w' => ListR w (renN l k b t) e w'
    have HC : Hid (∀ wx, NA wx g 0 l → Calls Tryz.prog 84 #[.slice (some ⟨g, 0, none⟩) l.length cap, .int .i64 (k : Int), .agg #[.bool b, .string t, .int .i64 0]] wx fun e w' => ListR wx (renN l k b t) e w') := fun wx hx => rename_any l k g cap b t wx hl (by omega) (unhide HD) hx
    generalize renN l k b t = r at *
    go_enter Tryz.func53, Tryz.ntmps53
    go_wp2_with fail
    refine (unhide HC _ (unhide HNX _)).mono ?_
    intro e w1 hr
    have HR := hide (unhide HUP _ _ _ _ hr)
    obtain ⟨_, h3⟩ := hr
    cases r with
    | none =>
      have h3' : e = .returned (.tuple #[.slice none 0 0, .bool false]) := h3
      subst h3'
      clear h3
      go_wp2_with fail
      go_ret2
      exact unhide HR
    | some m =>
      obtain ⟨v, h3', _⟩ := h3
      subst h3'
      go_wp2_with fail
      go_ret2
      exact unhide HR
  | del k =>
    have h1 : k ≤ 999999 := hs
    show Calls _ _ #[.agg (stA ⟨#[100]⟩ k 0 0 false ⟨#[]⟩), _] _ fun e w' => ListR w (remN l k) e w'
    have HC : Hid (∀ wx, NA wx g 0 l → Calls Tryz.prog 85 #[.slice (some ⟨g, 0, none⟩) l.length cap, .int .i64 (k : Int)] wx fun e w' => ListR wx (remN l k) e w') := fun wx hx => remove_any l k g cap wx hl hcap hcm (by omega) (unhide HD) hx
    generalize remN l k = r at *
    go_enter Tryz.func53, Tryz.ntmps53
    go_wp2_with fail
    refine (unhide HC _ (unhide HNX _)).mono ?_
    intro e w1 hr
    have HR := hide (unhide HUP _ _ _ _ hr)
    obtain ⟨_, h3⟩ := hr
    cases r with
    | none =>
      have h3' : e = .returned (.tuple #[.slice none 0 0, .bool false]) := h3
      subst h3'
      clear h3
      go_wp2_with fail
      go_ret2
      exact unhide HR
    | some m =>
      obtain ⟨v, h3', _⟩ := h3
      subst h3'
      go_wp2_with fail
      go_ret2
      exact unhide HR
  | ins p i n b t =>
    obtain ⟨h1, h2, h3, h4⟩ := hs
    show Calls _ _ #[.agg (stA ⟨#[105]⟩ p i n b t), _] _ fun e w' => ListR w (insN l p i n b t) e w'
    have HC : Hid (∀ wx, NA wx g 0 l → Calls Tryz.prog 86 #[.agg (stA ⟨#[105]⟩ p i n b t), .slice (some ⟨g, 0, none⟩) l.length cap] wx fun e w' => ListR wx (insN l p i n b t) e w') := fun wx hx => insert_any l p i n g cap _ b t wx hl hcap hcm (by omega) (by omega) (by omega) (unhide HD) hx
    generalize insN l p i n b t = r at *
    go_enter Tryz.func53, Tryz.ntmps53
    go_wp2_with fail
    refine (unhide HC _ (unhide HNX _)).mono ?_
    intro e w1 hr
    have HR := hide (unhide HUP _ _ _ _ hr)
    obtain ⟨_, h3⟩ := hr
    cases r with
    | none =>
      have h3' : e = .returned (.tuple #[.slice none 0 0, .bool false]) := h3
      subst h3'
      clear h3
      go_wp2_with fail
      go_ret2
      exact unhide HR
    | some m =>
      obtain ⟨v, h3', _⟩ := h3
      subst h3'
      go_wp2_with fail
      go_ret2
      exact unhide HR

/-! ## What a step leaves small -/
def Fine (n : Nat) (l : List Nd) : Prop := 1 ≤ l.length ∧ l.length ≤ 80 + n ∧ ∀ x ∈ l, -(2000 + (n : Int)) ≤ x.depth ∧ x.depth ≤ 2000 + n ∧ x.text.size ≤ 10000
theorem Fine.deep {n : Nat} {l : List Nd} (h : Fine n l) (hn : n ≤ 100000) : Deep l := fun x hx => by have := h.2.2 x hx; omega
theorem sh_fine {n : Nat} {l : List Nd} {d : Int} (hd : -1 ≤ d ∧ d ≤ 1) (h : ∀ x ∈ l, -(2000 + (n : Int)) ≤ x.depth ∧ x.depth ≤ 2000 + n ∧ x.text.size ≤ 10000) : ∀ x ∈ l.map (shN d), -(2000 + ((n + 1 : Nat) : Int)) ≤ x.depth ∧ x.depth ≤ 2000 + ((n + 1 : Nat) : Int) ∧ x.text.size ≤ 10000 := by
  intro x hx
  obtain ⟨y, hy, rfl⟩ := List.mem_map.1 hx
  have := h y hy
  show -(2000 + ((n + 1 : Nat) : Int)) ≤ y.depth + d ∧ y.depth + d ≤ 2000 + ((n + 1 : Nat) : Int) ∧ y.text.size ≤ 10000
  omega
theorem stepN_fine {n : Nat} {l m : List Nd} {st : Stp} (h : Fine n l) (hs : st.small) (hm : stepN l st = some m) : Fine (n + 1) m := by
  obtain ⟨h1, h2, h3⟩ := h
  have h3' : ∀ x ∈ l, -(2000 + ((n + 1 : Nat) : Int)) ≤ x.depth ∧ x.depth ≤ 2000 + ((n + 1 : Nat) : Int) ∧ x.text.size ≤ 10000 := fun x hx => by have := h3 x hx; omega
  cases st with
  | ren k b t =>
    obtain ⟨_, ht⟩ := hs
    simp only [stepN, renN] at hm
    split at hm
    · cases hm
    · split at hm
      · cases hm
      · split at hm
        · rename_i x hx
          cases hm
          refine ⟨by rw [List.length_set]; exact h1, by rw [List.length_set]; omega, fun y hy => ?_⟩
          rcases List.mem_or_eq_of_mem_set hy with hy | rfl
          · exact h3' y hy
          · have := h3' x (List.mem_of_getElem? hx); exact ⟨this.1, this.2.1, ht⟩
        · cases hm
  | del k =>
    simp only [stepN, remN] at hm
    split at hm
    · cases hm
    · rename_i hk
      cases hm
      have hsub := subE_le (l := l) (k := k) (by omega)
      refine ⟨?_, ?_, fun y hy => ?_⟩
      · simp only [List.length_append, List.length_take, List.length_map, List.length_drop]; omega
      · simp only [List.length_append, List.length_take, List.length_map, List.length_drop]; omega
      · rcases List.mem_append.1 hy with hy | hy
        · rcases List.mem_append.1 hy with hy | hy
          · exact h3' y (List.mem_of_mem_take hy)
          · exact sh_fine (by omega) (fun x hx => h3 x (List.mem_of_mem_drop (List.mem_of_mem_take hx))) y hy
        · exact h3' y (List.mem_of_mem_drop hy)
  | ins p i k b t =>
    obtain ⟨_, _, _, ht⟩ := hs
    simp only [stepN, insN] at hm
    split at hm
    · cases hm
    · rename_i x hx
      have hp : p < l.length := by
        rcases Nat.lt_or_ge p l.length with g | g
        · exact g
        · rw [List.getElem?_eq_none g] at hx; cases hx
      have hsub := subE_le hp
      have hpf := pastE_le (l := l) (limit := subE l p) (by omega) i (p + 1) (by omega)
      have hpe := pastE_le (l := l) (limit := subE l p) (by omega) k (pastE l (subE l p) i (p + 1)).1 (by omega)
      split at hm
      · cases hm
      · split at hm
        · cases hm
        · split at hm
          · cases hm
          · cases hm
            generalize (pastE l (subE l p) k (pastE l (subE l p) i (p + 1)).1).1 = e at *
            generalize (pastE l (subE l p) i (p + 1)).1 = f at *
            refine ⟨?_, ?_, fun y hy => ?_⟩
            · simp only [List.length_append, List.length_take, List.length_map, List.length_drop, List.length_cons, List.length_nil]; omega
            · simp only [List.length_append, List.length_take, List.length_map, List.length_drop, List.length_cons, List.length_nil]; omega
            · rcases List.mem_append.1 hy with hy | hy
              · rcases List.mem_append.1 hy with hy | hy
                · rcases List.mem_append.1 hy with hy | hy
                  · exact h3' y (List.mem_of_mem_take hy)
                  · simp at hy; subst hy
                    have := h3 x (List.mem_of_getElem? hx)
                    exact ⟨by show _ ≤ x.depth + 1; omega, by show x.depth + 1 ≤ _; omega, ht⟩
                · exact sh_fine (by omega) (fun x hx => h3 x (List.mem_of_mem_drop (List.mem_of_mem_take hx))) y hy
              · exact h3' y (List.mem_of_mem_drop hy)
theorem unL_len (n : Nat) : ∀ l o, l.length ≤ n → unL l = some o → o.length ≤ l.length := by
  induction n with
  | zero =>
    intro l o hl h
    have : l = [] := List.eq_nil_of_length_eq_zero (by omega)
    subst this
    rw [unL_nil] at h; cases h; simp
  | succ n ih =>
    intro l o hl h
    by_cases h0 : (unB l).2 = 0
    · by_cases hl0 : l = []
      · subst hl0; rw [unL_nil] at h; cases h; simp
      · rw [unL_no h0 hl0] at h; cases h
    · rw [unL_yes h0] at h
      obtain ⟨o', ho', rfl⟩ := Option.map_eq_some_iff.1 h
      have hle := unB_le l
      have := ih (l.drop (unB l).2) o' (by rw [List.length_drop]; omega) ho'
      rw [List.length_drop] at this
      rw [List.length_cons]; omega
theorem labV_len {l t : List UInt8} {b : Bool} (h : labV l = some (b, t)) : t.length ≤ l.length := by
  cases l with
  | nil => cases h
  | cons c l =>
    rw [labV] at h
    split at h
    · cases h; simp
    · split at h
      · obtain ⟨o, ho, e⟩ := Option.map_eq_some_iff.1 h
        cases e
        have := unL_len l.length l t (Nat.le_refl _) ho
        simp; omega
      · cases h
theorem stepW_small {l : List UInt8} {st : Stp} (hl : l.length ≤ 10000) (h : stepW (splitL 32 l) = some st) : st.small := by
  have hsz := splitL_size 32 l
  generalize splitL 32 l = W at *
  match W, h with
  | [x, a, b], h =>
    simp only [stepW] at h
    split at h
    · split at h
      · rename_i k lb h1 h2
        cases h
        have := labV_len (b := lb.1) (t := lb.2) h2
        have := hsz b (by simp)
        exact ⟨numV_bd h1, by rw [mk_size]; omega⟩
      · cases h
    · cases h
  | [x, a], h =>
    simp only [stepW] at h
    split at h
    · obtain ⟨k, hk, rfl⟩ := Option.map_eq_some_iff.1 h
      exact numV_bd hk
    · cases h
  | [x, a, b, c, d], h =>
    simp only [stepW] at h
    split at h
    · split at h
      · rename_i p i n lb h1 h2 h3 h4
        cases h
        have := labV_len (b := lb.1) (t := lb.2) h4
        have := hsz d (by simp)
        exact ⟨numV_bd h1, numV_bd h2, numV_bd h3, by rw [mk_size]; omega⟩
      · cases h
    · cases h

end Go.Proofs.YtdaneedflpfeaaaGreatDoor

namespace Go.Proofs.YtdaneedflpfeaaaGreatDoor
set_option maxRecDepth 100000
open Go.RowKit

inductive RunR where
  | bad (line : Nat) | ok (l : List Nd)
theorem lineE_ge (s : ByteArray) (i : Nat) (hi : i ≤ s.size) : i ≤ runE noLf s i ∧ runE noLf s i ≤ s.size := by
  induction i using runE.induct noLf s with
  | case1 i h ih => rw [runE, dif_pos h]; have := ih (by omega); omega
  | case2 i h => rw [runE, dif_neg h]; omega
/-- The bytes of a line. -/
def lineL (d : ByteArray) (a : Nat) : List UInt8 := (d.data.toList.drop a).take (runE noLf d a - a)
/-- A script, line by line. -/
def scrN (d : ByteArray) (l : List Nd) (a line : Nat) : RunR :=
  if _h : a < d.size then
    (if _h2 : runE noLf d a < d.size then
      match stepW (splitL 32 (lineL d a)) with
      | none => .bad line
      | some st => match stepN l st with
        | none => .bad line
        | some m => scrN d m (runE noLf d a + 1) (line + 1)
    else .bad line)
  else .ok l
  termination_by d.size - a
  decreasing_by have := lineE_ge d a (by omega); omega

def CarryR (w : World) (r : RunR) (e : Ending) (w' : World) : Prop := Below w.heap.size w w' ∧ match r with
  | .bad n => e = .returned (.tuple #[.slice none 0 0, .int .i64 (n : Int)])
  | .ok L => ∃ g cap, e = .returned (.tuple #[.slice (some ⟨g, 0, none⟩) L.length cap, .int .i64 0]) ∧ NA w' g 0 L

set_option maxHeartbeats 6400000 in
theorem carryOut_any (l : List Nd) (d : ByteArray) (g cap : Nat) (w : World) (hds : d.size ≤ 9000) (hf : Fine 0 l) (hcap : l.length ≤ cap) (hcm : cap ≤ maxLen) (hn : NA w g 0 l) :
    Calls Tryz.prog 29 #[.slice (some ⟨g, 0, none⟩) l.length cap, .string d] w fun e w' => CarryR w (scrN d l 0 1) e w' := by
  have HN := hide hn
  have HF := hide hf
  clear hn hf
  go_enter Tryz.func29, Tryz.ntmps29
  go_wp2_with fail
  go_loopw [0, 6, 7, 8, 9, 10, 11, 12] (fun v ln i _ _ _ _ _ wr => ∃ (L : List Nd) (g cap a n : Nat), a ≤ d.size ∧ n ≤ a ∧ v = .slice (some ⟨g, 0, none⟩) L.length cap ∧ L.length ≤ cap ∧ cap ≤ maxLen ∧ ln = .int .i64 ((n : Int) + 1) ∧ i = .int .i64 a ∧ NA wr g 0 L ∧ Hid (Fine n L) ∧ Hid (scrN d L a (n + 1) = scrN d l 0 1) ∧ Below w.heap.size w wr) (fun _ _ i _ _ _ _ _ _ => d.size - (intOf i).toNat)
  case atStart => exact ⟨l, g, cap, 0, 0, Nat.zero_le _, Nat.zero_le _, rfl, hcap, hcm, rfl, rfl, unhide HN, HF, rfl, Below.refl _ _⟩
  case round =>
    clear HN HF hcap hcm
    obtain ⟨L, g, cap, a, n, ha, hna, rfl, hcap, hcm, rfl, rfl, hn, HF, HE, hB⟩ := hrel
    have HN := hide hn
    have hgl := hn.lt
    have HB := hide hB
    have hsz := hB.size
    clear hn hB
    by_cases hlt : a < d.size
    · have hge := lineE_ge d a ha
      have HLE := hide (fun wx => lineEndW_any d (a : Int) wx (by omega) (by omega) (by omega))
      have HU := hide (scrN.eq_1 d L a (n + 1))
      have HLN : Hid (lineL d a = (d.data.toList.drop a).take (runE noLf d a - a)) := rfl
      rw [Int.toNat_natCast] at HLE
      by_cases he : runE noLf d a < d.size
      · have HU2 : Hid (scrN d L a (n + 1) = match stepW (splitL 32 (lineL d a)) with
          | none => .bad (n + 1)
          | some st => match stepN L st with
            | none => .bad (n + 1)
            | some m => scrN d m (runE noLf d a + 1) (n + 1 + 1)) := by show _ = _; rw [unhide HU, dif_pos hlt, dif_pos he]
        have hls : (lineL d a).length ≤ 9000 := by rw [unhide HLN]; have := List.length_take_le (runE noLf d a - a) (d.data.toList.drop a); omega
        have HX : Hid (d.extract a (runE noLf d a) = mk (lineL d a)) := by show _ = _; rw [ext_mk]; rfl
        have hxs : (d.extract a (runE noLf d a)).size ≤ 1000000 := by rw [ByteArray.size_extract]; omega
        have HRS : Hid (∀ wx, Calls Tryz.prog 52 #[.string (d.extract a (runE noLf d a))] wx fun e w' => Below wx.heap.size wx w' ∧ ∃ kd x y z bb t ok, e = .returned (.tuple #[.agg (stA kd x y z bb t), .bool ok]) ∧ StIs (stepW (splitL 32 (lineL d a))) (stA kd x y z bb t) ok) := fun wx => by
          have := readStep_any (d.extract a (runE noLf d a)) wx hxs
          rw [unhide HX] at this ⊢
          exact this
        have HSM := hide (fun st h => stepW_small (l := lineL d a) (st := st) (by omega) h)
        clear HU HX hxs HLN
        generalize stepW (splitL 32 (lineL d a)) = sw at *
        generalize runE noLf d a = z at *
        go_wp2_with fail
        refine (unhide HLE _).mono ?_
        rintro e w1 ⟨rfl, hw⟩; have hw := hw.symm; subst hw
        go_wp2_with fail
        refine (unhide HRS _).mono ?_
        rintro e w1 ⟨hB1, kd, x0, x1, x2, bb, tt, ok, rfl, hst⟩
        have HB1 : Hid (Below w.heap.size w w1) := (unhide HB).trans (hB1.mono hsz)
        have hsz1 := hB1.size
        have HN1 := hide ((unhide HN).below hB1 hgl)
        clear hB1
        cases sw with
        | none =>
          have hok : ok = false := hst
          subst hok
          have HR : Hid (scrN d l 0 1 = .bad (n + 1)) := by show _ = _; rw [← unhide HE, unhide HU2]
          clear HU2 HE hst HSM
          go_wp2_with fail
          go_ret2
          rw [unhide HR]
          exact ⟨(unhide HB1).alloc (by omega) _, rfl⟩
        | some st =>
          obtain ⟨rfl, hcs⟩ := hst
          have hsm := unhide HSM st rfl
          have HNX : Hid (∀ o, NA (w1.alloc o) g 0 L) := fun o => (unhide HN1).heap (heap_alloc_old _ _ (unhide HN1).lt)
          have HFL := (unhide HF).2.1
          have HSC : Hid (∀ wx, NA wx g 0 L → Calls Tryz.prog 53 #[.agg (stA kd x0 x1 x2 bb tt), .slice (some ⟨g, 0, none⟩) L.length cap] wx fun e w' => ListR wx (stepN L st) e w') := fun wx hx => by
            rw [hcs]
            exact stepCarry_any st L g cap wx hsm (by omega) hcap hcm ((unhide HF).deep (by omega)) hx
          have HFN := hide (fun m h => stepN_fine (m := m) (unhide HF) hsm h)
          clear hcs HSM hsm
          go_wp2_with fail
          refine (unhide HSC _ (unhide HNX _)).mono ?_
          intro e w2 hr
          obtain ⟨hB2, h3⟩ := hr
          have HB2 : Hid (Below w.heap.size w w2) := ((unhide HB1).alloc (by omega) _).trans (hB2.mono (by simp; omega))
          have hsz2 : w1.heap.size < w2.heap.size := by have := hB2.size; simp at this; omega
          clear hB2
          cases ho : stepN L st with
          | none =>
            rw [ho] at h3
            have h3' : e = .returned (.tuple #[.slice none 0 0, .bool false]) := h3
            subst h3'
            have HR : Hid (scrN d l 0 1 = .bad (n + 1)) := by show _ = _; rw [← unhide HE, unhide HU2]; simp only [ho]
            clear h3 HU2 HE ho HFN HSC
            go_wp2_with fail
            go_ret2
            rw [unhide HR]
            exact ⟨unhide HB2, rfl⟩
          | some m =>
            rw [ho] at h3
            obtain ⟨v, h3', hown⟩ := h3
            subst h3'
            have HFM := hide (unhide HFN m ho)
            rcases row_form hown with ⟨_, h0⟩ | ⟨g2, cap2, rfl, hg2⟩
            · have := (unhide HFM).1; omega
            have HE2 : Hid (scrN d m (z + 1) (n + 1 + 1) = scrN d l 0 1) := by show _ = _; rw [← unhide HE, unhide HU2]; simp only [ho]
            have HNM := hide (NA.of_own hown hg2 rfl)
            have hcc := own_cap hown
            clear HU2 HE ho HFN HSC hown
            go_wp2_with fail
            go_roundw
            case rel => exact ⟨m, g2, cap2, z + 1, n + 1, by omega, by omega, rfl, hcc.1, hcc.2, by go_num, by go_num, unhide HNM, HFM, HE2, unhide HB2⟩
            case measure => simp [intOf]; omega
      · have HR : Hid (scrN d l 0 1 = .bad (n + 1)) := by show _ = _; rw [← unhide HE, unhide HU, dif_pos hlt, dif_neg he]
        clear HU HE HLN
        generalize runE noLf d a = z at *
        go_wp2_with fail
        refine (unhide HLE _).mono ?_
        rintro e w1 ⟨rfl, hw⟩; have hw := hw.symm; subst hw
        go_wp2_with fail
        go_ret2
        rw [unhide HR]
        exact ⟨unhide HB, rfl⟩
    · have HR : Hid (scrN d l 0 1 = .ok L) := by show _ = _; rw [← unhide HE, scrN, dif_neg hlt]
      clear HE
      go_wp2_with fail
      go_ret2
      rw [unhide HR]
      exact ⟨unhide HB, g, cap, rfl, unhide HN⟩

end Go.Proofs.YtdaneedflpfeaaaGreatDoor
