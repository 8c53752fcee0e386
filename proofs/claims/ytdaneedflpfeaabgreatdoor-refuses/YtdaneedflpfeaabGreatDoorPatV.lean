import Derived.Test.YtdaneedflpfeaabGreatDoorPatR
import Derived.Test.YtdaneedflpfeaabGreatDoorOut
import Derived.Laws.StructEq
namespace Go.Proofs.YtdaneedflpfeaabGreatDoor
set_option maxRecDepth 100000
open Go.RowKit

def stepN (l : List Nd) : Stp → Option (List Nd)
  | .ren k b t => renN l k b t
  | .del k => remN l k
  | .ins p i n b t => insN l p i n b t
def Stp.small : Stp → Prop
  | .ren k _ t => k ≤ 999999 ∧ t.size ≤ 10000
  | .del k => k ≤ 999999
  | .ins p i n _ t => p ≤ 999999 ∧ i ≤ 999999 ∧ n ≤ 999999 ∧ t.size ≤ 10000
theorem ListR.up {w w1 w' : World} {o : Option (List Nd)} {e : Ending} (h : ListR w1 o e w') (hb : Below w.heap.size w w1) : ListR w o e w' := by
  obtain ⟨h1, h2⟩ := h
  refine ⟨hb.trans (h1.mono hb.size), ?_⟩
  cases o with
  | none => exact h2
  | some m => obtain ⟨v, e1, h3⟩ := h2; exact ⟨v, e1, ownsRow_base h3 hb.size⟩

set_option maxHeartbeats 3200000 in
theorem stepCarry_any (st : Stp) (l : List Nd) (g cap : Nat) (w : World) (hs : st.small) (hl : l.length ≤ 1000000) (hcap : l.length ≤ cap) (hcm : cap ≤ maxLen) (hd : Deep l) (hn : NA w g 0 l) :
    Calls Tryz.prog 30 #[.agg st.cells, .slice (some ⟨g, 0, none⟩) l.length cap] w fun e w' => ListR w (stepN l st) e w' := by
  have HNX : Hid (∀ o, NA (w.alloc o) g 0 l) := fun o => hn.heap (heap_alloc_old _ _ hn.lt)
  have HUP : Hid (∀ o r e w', ListR (w.alloc o) r e w' → ListR w r e w') := fun o r e w' h => h.up ((Below.refl _ _).alloc (Nat.le_refl _) _)
  have HD := hide hd
  clear hn hd
  cases st with
  | ren k b t =>
    obtain ⟨h1, h2⟩ := hs
    show Calls _ _ #[.agg (stA ⟨#[114]⟩ k 0 0 b t), _] _ fun e w' => ListR w (renN l k b t) e w'
    have HC : Hid (∀ wx, NA wx g 0 l → Calls Tryz.prog 52 #[.slice (some ⟨g, 0, none⟩) l.length cap, .int .i64 (k : Int), .agg #[.bool b, .string t, .int .i64 0]] wx fun e w' => ListR wx (renN l k b t) e w') := fun wx hx => rename_any l k g cap b t wx hl (by omega) (unhide HD) hx
    generalize renN l k b t = r at *
    go_enter Tryz.func30, Tryz.ntmps30
    go_wp2_with fail
    refine (unhide HC _ (unhide HNX _)).mono ?_
    intro e w1 hr
    have HR := hide (unhide HUP _ _ _ _ hr)
    obtain ⟨_, h3⟩ := hr
    cases r with
    | none =>
      have h3' : e = .returned (.tuple #[.slice none 0 0, .bool false]) := h3
      subst h3'
      clear h3
      go_wp2_with fail
      go_ret2
      exact unhide HR
    | some m =>
      obtain ⟨v, h3', _⟩ := h3
      subst h3'
      go_wp2_with fail
      go_ret2
      exact unhide HR
  | del k =>
    have h1 : k ≤ 999999 := hs
    show Calls _ _ #[.agg (stA ⟨#[100]⟩ k 0 0 false ⟨#[]⟩), _] _ fun e w' => ListR w (remN l k) e w'
    have HC : Hid (∀ wx, NA wx g 0 l → Calls Tryz.prog 53 #[.slice (some ⟨g, 0, none⟩) l.length cap, .int .i64 (k : Int)] wx fun e w' => ListR wx (remN l k) e w') := fun wx hx => remove_any l k g cap wx hl hcap hcm (by omega) (unhide HD) hx
    generalize remN l k = r at *
    go_enter Tryz.func30, Tryz.ntmps30
    go_wp2_with fail
    refine (unhide HC _ (unhide HNX _)).mono ?_
    intro e w1 hr
    have HR := hide (unhide HUP _ _ _ _ hr)
    obtain ⟨_, h3⟩ := hr
    cases r with
    | none =>
      have h3' : e = .returned (.tuple #[.slice none 0 0, .bool false]) := h3
      subst h3'
      clear h3
      go_wp2_with fail
      go_ret2
      exact unhide HR
    | some m =>
      obtain ⟨v, h3', _⟩ := h3
      subst h3'
      go_wp2_with fail
      go_ret2
      exact unhide HR
  | ins p i n b t =>
    obtain ⟨h1, h2, h3, h4⟩ := hs
    show Calls _ _ #[.agg (stA ⟨#[105]⟩ p i n b t), _] _ fun e w' => ListR w (insN l p i n b t) e w'
    have HC : Hid (∀ wx, NA wx g 0 l → Calls Tryz.prog 54 #[.agg (stA ⟨#[105]⟩ p i n b t), .slice (some ⟨g, 0, none⟩) l.length cap] wx fun e w' => ListR wx (insN l p i n b t) e w') := fun wx hx => insert_any l p i n g cap _ b t wx hl hcap hcm (by omega) (by omega) (by omega) (unhide HD) hx
    generalize insN l p i n b t = r at *
    go_enter Tryz.func30, Tryz.ntmps30
    go_wp2_with fail
    refine (unhide HC _ (unhide HNX _)).mono ?_
    intro e w1 hr
    have HR := hide (unhide HUP _ _ _ _ hr)
    obtain ⟨_, h3⟩ := hr
    cases r with
    | none =>
      have h3' : e = .returned (.tuple #[.slice none 0 0, .bool false]) := h3
      subst h3'
      clear h3
      go_wp2_with fail
      go_ret2
      exact unhide HR
    | some m =>
      obtain ⟨v, h3', _⟩ := h3
      subst h3'
      go_wp2_with fail
      go_ret2
      exact unhide HR

/-! ## What a step leaves small -/
def Fine (n : Nat) (l : List Nd) : Prop := 1 ≤ l.length ∧ l.length ≤ 80 + n ∧ ∀ x ∈ l, -(2000 + (n : Int)) ≤ x.depth ∧ x.depth ≤ 2000 + n ∧ x.text.size ≤ 10000
theorem Fine.deep {n : Nat} {l : List Nd} (h : Fine n l) (hn : n ≤ 100000) : Deep l := fun x hx => by have := h.2.2 x hx; omega
theorem sh_fine {n : Nat} {l : List Nd} {d : Int} (hd : -1 ≤ d ∧ d ≤ 1) (h : ∀ x ∈ l, -(2000 + (n : Int)) ≤ x.depth ∧ x.depth ≤ 2000 + n ∧ x.text.size ≤ 10000) : ∀ x ∈ l.map (shN d), -(2000 + ((n + 1 : Nat) : Int)) ≤ x.depth ∧ x.depth ≤ 2000 + ((n + 1 : Nat) : Int) ∧ x.text.size ≤ 10000 := by
  intro x hx
  obtain ⟨y, hy, rfl⟩ := List.mem_map.1 hx
  have := h y hy
  show -(2000 + ((n + 1 : Nat) : Int)) ≤ y.depth + d ∧ y.depth + d ≤ 2000 + ((n + 1 : Nat) : Int) ∧ y.text.size ≤ 10000
  omega
theorem stepN_fine {n : Nat} {l m : List Nd} {st : Stp} (h : Fine n l) (hs : st.small) (hm : stepN l st = some m) : Fine (n + 1) m := by
  obtain ⟨h1, h2, h3⟩ := h
  have h3' : ∀ x ∈ l, -(2000 + ((n + 1 : Nat) : Int)) ≤ x.depth ∧ x.depth ≤ 2000 + ((n + 1 : Nat) : Int) ∧ x.text.size ≤ 10000 := fun x hx => by have := h3 x hx; omega
  cases st with
  | ren k b t =>
    obtain ⟨_, ht⟩ := hs
    simp only [stepN, renN] at hm
    split at hm
    · cases hm
    · split at hm
      · cases hm
      · split at hm
        · rename_i x hx
          cases hm
          refine ⟨by rw [List.length_set]; exact h1, by rw [List.length_set]; omega, fun y hy => ?_⟩
          rcases List.mem_or_eq_of_mem_set hy with hy | rfl
          · exact h3' y hy
          · have := h3' x (List.mem_of_getElem? hx); exact ⟨this.1, this.2.1, ht⟩
        · cases hm
  | del k =>
    simp only [stepN, remN] at hm
    split at hm
    · cases hm
    · rename_i hk
      cases hm
      have hsub := subE_le (l := l) (k := k) (by omega)
      refine ⟨?_, ?_, fun y hy => ?_⟩
      · simp only [List.length_append, List.length_take, List.length_map, List.length_drop]; omega
      · simp only [List.length_append, List.length_take, List.length_map, List.length_drop]; omega
      · rcases List.mem_append.1 hy with hy | hy
        · rcases List.mem_append.1 hy with hy | hy
          · exact h3' y (List.mem_of_mem_take hy)
          · exact sh_fine (by omega) (fun x hx => h3 x (List.mem_of_mem_drop (List.mem_of_mem_take hx))) y hy
        · exact h3' y (List.mem_of_mem_drop hy)
  | ins p i k b t =>
    obtain ⟨_, _, _, ht⟩ := hs
    simp only [stepN, insN] at hm
    split at hm
    · cases hm
    · rename_i x hx
      have hp : p < l.length := by
        rcases Nat.lt_or_ge p l.length with g | g
        · exact g
        · rw [List.getElem?_eq_none g] at hx; cases hx
      have hsub := subE_le hp
      have hpf := pastE_le (l := l) (limit := subE l p) (by omega) i (p + 1) (by omega)
      have hpe := pastE_le (l := l) (limit := subE l p) (by omega) k (pastE l (subE l p) i (p + 1)).1 (by omega)
      split at hm
      · cases hm
      · split at hm
        · cases hm
        · split at hm
          · cases hm
          · cases hm
            generalize (pastE l (subE l p) k (pastE l (subE l p) i (p + 1)).1).1 = e at *
            generalize (pastE l (subE l p) i (p + 1)).1 = f at *
            refine ⟨?_, ?_, fun y hy => ?_⟩
            · simp only [List.length_append, List.length_take, List.length_map, List.length_drop, List.length_cons, List.length_nil]; omega
            · simp only [List.length_append, List.length_take, List.length_map, List.length_drop, List.length_cons, List.length_nil]; omega
            · rcases List.mem_append.1 hy with hy | hy
              · rcases List.mem_append.1 hy with hy | hy
                · rcases List.mem_append.1 hy with hy | hy
                  · exact h3' y (List.mem_of_mem_take hy)
                  · simp at hy; subst hy
                    have := h3 x (List.mem_of_getElem? hx)
                    exact ⟨by show _ ≤ x.depth + 1; omega, by show x.depth + 1 ≤ _; omega, ht⟩
                · exact sh_fine (by omega) (fun x hx => h3 x (List.mem_of_mem_drop (List.mem_of_mem_take hx))) y hy
              · exact h3' y (List.mem_of_mem_drop hy)
theorem unL_len (n : Nat) : ∀ l o, l.length ≤ n → unL l = some o → o.length ≤ l.length := by
  induction n with
  | zero =>
    intro l o hl h
    have : l = [] := List.eq_nil_of_length_eq_zero (by omega)
    subst this
    rw [unL_nil] at h; cases h; simp
  | succ n ih =>
    intro l o hl h
    by_cases h0 : (unB l).2 = 0
    · by_cases hl0 : l = []
      · subst hl0; rw [unL_nil] at h; cases h; simp
      · rw [unL_no h0 hl0] at h; cases h
    · rw [unL_yes h0] at h
      obtain ⟨o', ho', rfl⟩ := Option.map_eq_some_iff.1 h
      have hle := unB_le l
      have := ih (l.drop (unB l).2) o' (by rw [List.length_drop]; omega) ho'
      rw [List.length_drop] at this
      rw [List.length_cons]; omega
theorem labV_len {l t : List UInt8} {b : Bool} (h : labV l = some (b, t)) : t.length ≤ l.length := by
  cases l with
  | nil => cases h
  | cons c l =>
    rw [labV] at h
    split at h
    · cases h; simp
    · split at h
      · obtain ⟨o, ho, e⟩ := Option.map_eq_some_iff.1 h
        cases e
        have := unL_len l.length l t (Nat.le_refl _) ho
        simp; omega
      · cases h
theorem stepW_small {l : List UInt8} {st : Stp} (hl : l.length ≤ 10000) (h : stepW (splitL 32 l) = some st) : st.small := by
  have hsz := splitL_size 32 l
  generalize splitL 32 l = W at *
  match W, h with
  | [x, a, b], h =>
    simp only [stepW] at h
    split at h
    · split at h
      · rename_i k lb h1 h2
        cases h
        have := labV_len (b := lb.1) (t := lb.2) h2
        have := hsz b (by simp)
        exact ⟨numV_bd h1, by rw [mk_size]; omega⟩
      · cases h
    · cases h
  | [x, a], h =>
    simp only [stepW] at h
    split at h
    · obtain ⟨k, hk, rfl⟩ := Option.map_eq_some_iff.1 h
      exact numV_bd hk
    · cases h
  | [x, a, b, c, d], h =>
    simp only [stepW] at h
    split at h
    · split at h
      · rename_i p i n lb h1 h2 h3 h4
        cases h
        have := labV_len (b := lb.1) (t := lb.2) h4
        have := hsz d (by simp)
        exact ⟨numV_bd h1, numV_bd h2, numV_bd h3, by rw [mk_size]; omega⟩
      · cases h
    · cases h

end Go.Proofs.YtdaneedflpfeaabGreatDoor

namespace Go.Proofs.YtdaneedflpfeaabGreatDoor
set_option maxRecDepth 100000
open Go.RowKit

inductive RunR where
  | bad (line : Nat) | ok (l : List Nd)
theorem lineE_ge (s : ByteArray) (i : Nat) (hi : i ≤ s.size) : i ≤ runE noLf s i ∧ runE noLf s i ≤ s.size := by
  induction i using runE.induct noLf s with
  | case1 i h ih => rw [runE, dif_pos h]; have := ih (by omega); omega
  | case2 i h => rw [runE, dif_neg h]; omega
/-- The bytes of a line. -/
def lineL (d : ByteArray) (a : Nat) : List UInt8 := (d.data.toList.drop a).take (runE noLf d a - a)
/-- A script, line by line. -/
def scrN (d : ByteArray) (l : List Nd) (a line : Nat) : RunR :=
  if _h : a < d.size then
    (if _h2 : runE noLf d a < d.size then
      match stepW (splitL 32 (lineL d a)) with
      | none => .bad line
      | some st => match stepN l st with
        | none => .bad line
        | some m => scrN d m (runE noLf d a + 1) (line + 1)
    else .bad line)
  else .ok l
  termination_by d.size - a
  decreasing_by have := lineE_ge d a (by omega); omega

def CarryR (w : World) (r : RunR) (e : Ending) (w' : World) : Prop := Below w.heap.size w w' ∧ match r with
  | .bad n => e = .returned (.tuple #[.slice none 0 0, .int .i64 (n : Int)])
  | .ok L => ∃ g cap, e = .returned (.tuple #[.slice (some ⟨g, 0, none⟩) L.length cap, .int .i64 0]) ∧ NA w' g 0 L

set_option maxHeartbeats 6400000 in
theorem carryOut_any (l : List Nd) (d : ByteArray) (g cap : Nat) (w : World) (hds : d.size ≤ 9000) (hf : Fine 0 l) (hcap : l.length ≤ cap) (hcm : cap ≤ maxLen) (hn : NA w g 0 l) :
    Calls Tryz.prog 15 #[.slice (some ⟨g, 0, none⟩) l.length cap, .string d] w fun e w' => CarryR w (scrN d l 0 1) e w' := by
  have HN := hide hn
  have HF := hide hf
  clear hn hf
  go_enter Tryz.func15, Tryz.ntmps15
  go_wp2_with fail
  go_loopw [0, 6, 7, 8, 9, 10, 11, 12] (fun v ln i _ _ _ _ _ wr => ∃ (L : List Nd) (g cap a n : Nat), a ≤ d.size ∧ n ≤ a ∧ v = .slice (some ⟨g, 0, none⟩) L.length cap ∧ L.length ≤ cap ∧ cap ≤ maxLen ∧ ln = .int .i64 ((n : Int) + 1) ∧ i = .int .i64 a ∧ NA wr g 0 L ∧ Hid (Fine n L) ∧ Hid (scrN d L a (n + 1) = scrN d l 0 1) ∧ Below w.heap.size w wr) (fun _ _ i _ _ _ _ _ _ => d.size - (intOf i).toNat)
  case atStart => exact ⟨l, g, cap, 0, 0, Nat.zero_le _, Nat.zero_le _, rfl, hcap, hcm, rfl, rfl, unhide HN, HF, rfl, Below.refl _ _⟩
  case round =>
    clear HN HF hcap hcm
    obtain ⟨L, g, cap, a, n, ha, hna, rfl, hcap, hcm, rfl, rfl, hn, HF, HE, hB⟩ := hrel
    have HN := hide hn
    have hgl := hn.lt
    have HB := hide hB
    have hsz := hB.size
    clear hn hB
    by_cases hlt : a < d.size
    · have hge := lineE_ge d a ha
      have HLE := hide (fun wx => lineEndW_any d (a : Int) wx (by omega) (by omega) (by omega))
      have HU := hide (scrN.eq_1 d L a (n + 1))
      have HLN : Hid (lineL d a = (d.data.toList.drop a).take (runE noLf d a - a)) := rfl
      rw [Int.toNat_natCast] at HLE
      by_cases he : runE noLf d a < d.size
      · have HU2 : Hid (scrN d L a (n + 1) = match stepW (splitL 32 (lineL d a)) with
          | none => .bad (n + 1)
          | some st => match stepN L st with
            | none => .bad (n + 1)
            | some m => scrN d m (runE noLf d a + 1) (n + 1 + 1)) := by show _ = _; rw [unhide HU, dif_pos hlt, dif_pos he]
        have hls : (lineL d a).length ≤ 9000 := by rw [unhide HLN]; have := List.length_take_le (runE noLf d a - a) (d.data.toList.drop a); omega
        have HX : Hid (d.extract a (runE noLf d a) = mk (lineL d a)) := by show _ = _; rw [ext_mk]; rfl
        have hxs : (d.extract a (runE noLf d a)).size ≤ 1000000 := by rw [ByteArray.size_extract]; omega
        have HRS : Hid (∀ wx, Calls Tryz.prog 29 #[.string (d.extract a (runE noLf d a))] wx fun e w' => Below wx.heap.size wx w' ∧ ∃ kd x y z bb t ok, e = .returned (.tuple #[.agg (stA kd x y z bb t), .bool ok]) ∧ StIs (stepW (splitL 32 (lineL d a))) (stA kd x y z bb t) ok) := fun wx => by
          have := readStep_any (d.extract a (runE noLf d a)) wx hxs
          rw [unhide HX] at this ⊢
          exact this
        have HSM := hide (fun st h => stepW_small (l := lineL d a) (st := st) (by omega) h)
        clear HU HX hxs HLN
        generalize stepW (splitL 32 (lineL d a)) = sw at *
        generalize runE noLf d a = z at *
        go_wp2_with fail
        refine (unhide HLE _).mono ?_
        rintro e w1 ⟨rfl, hw⟩; have hw := hw.symm; subst hw
        go_wp2_with fail
        refine (unhide HRS _).mono ?_
        rintro e w1 ⟨hB1, kd, x0, x1, x2, bb, tt, ok, rfl, hst⟩
        have HB1 : Hid (Below w.heap.size w w1) := (unhide HB).trans (hB1.mono hsz)
        have hsz1 := hB1.size
        have HN1 := hide ((unhide HN).below hB1 hgl)
        clear hB1
        cases sw with
        | none =>
          have hok : ok = false := hst
          subst hok
          have HR : Hid (scrN d l 0 1 = .bad (n + 1)) := by show _ = _; rw [← unhide HE, unhide HU2]
          clear HU2 HE hst HSM
          go_wp2_with fail
          go_ret2
          rw [unhide HR]
          exact ⟨(unhide HB1).alloc (by omega) _, rfl⟩
        | some st =>
          obtain ⟨rfl, hcs⟩ := hst
          have hsm := unhide HSM st rfl
          have HNX : Hid (∀ o, NA (w1.alloc o) g 0 L) := fun o => (unhide HN1).heap (heap_alloc_old _ _ (unhide HN1).lt)
          have HFL := (unhide HF).2.1
          have HSC : Hid (∀ wx, NA wx g 0 L → Calls Tryz.prog 30 #[.agg (stA kd x0 x1 x2 bb tt), .slice (some ⟨g, 0, none⟩) L.length cap] wx fun e w' => ListR wx (stepN L st) e w') := fun wx hx => by
            rw [hcs]
            exact stepCarry_any st L g cap wx hsm (by omega) hcap hcm ((unhide HF).deep (by omega)) hx
          have HFN := hide (fun m h => stepN_fine (m := m) (unhide HF) hsm h)
          clear hcs HSM hsm
          go_wp2_with fail
          refine (unhide HSC _ (unhide HNX _)).mono ?_
          intro e w2 hr
          obtain ⟨hB2, h3⟩ := hr
          have HB2 : Hid (Below w.heap.size w w2) := ((unhide HB1).alloc (by omega) _).trans (hB2.mono (by simp; omega))
          have hsz2 : w1.heap.size < w2.heap.size := by have := hB2.size; simp at this; omega
          clear hB2
          cases ho : stepN L st with
          | none =>
            rw [ho] at h3
            have h3' : e = .returned (.tuple #[.slice none 0 0, .bool false]) := h3
            subst h3'
            have HR : Hid (scrN d l 0 1 = .bad (n + 1)) := by show _ = _; rw [← unhide HE, unhide HU2]; simp only [ho]
            clear h3 HU2 HE ho HFN HSC
            go_wp2_with fail
            go_ret2
            rw [unhide HR]
            exact ⟨unhide HB2, rfl⟩
          | some m =>
            rw [ho] at h3
            obtain ⟨v, h3', hown⟩ := h3
            subst h3'
            have HFM := hide (unhide HFN m ho)
            rcases row_form hown with ⟨_, h0⟩ | ⟨g2, cap2, rfl, hg2⟩
            · have := (unhide HFM).1; omega
            have HE2 : Hid (scrN d m (z + 1) (n + 1 + 1) = scrN d l 0 1) := by show _ = _; rw [← unhide HE, unhide HU2]; simp only [ho]
            have HNM := hide (NA.of_own hown hg2 rfl)
            have hcc := own_cap hown
            clear HU2 HE ho HFN HSC hown
            go_wp2_with fail
            go_roundw
            case rel => exact ⟨m, g2, cap2, z + 1, n + 1, by omega, by omega, rfl, hcc.1, hcc.2, by go_num, by go_num, unhide HNM, HFM, HE2, unhide HB2⟩
            case measure => simp [intOf]; omega
      · have HR : Hid (scrN d l 0 1 = .bad (n + 1)) := by show _ = _; rw [← unhide HE, unhide HU, dif_pos hlt, dif_neg he]
        clear HU HE HLN
        generalize runE noLf d a = z at *
        go_wp2_with fail
        refine (unhide HLE _).mono ?_
        rintro e w1 ⟨rfl, hw⟩; have hw := hw.symm; subst hw
        go_wp2_with fail
        go_ret2
        rw [unhide HR]
        exact ⟨unhide HB, rfl⟩
    · have HR : Hid (scrN d l 0 1 = .ok L) := by show _ = _; rw [← unhide HE, scrN, dif_neg hlt]
      clear HE
      go_wp2_with fail
      go_ret2
      rw [unhide HR]
      exact ⟨unhide HB, g, cap, rfl, unhide HN⟩

end Go.Proofs.YtdaneedflpfeaabGreatDoor

namespace Go.Proofs.YtdaneedflpfeaabGreatDoor
set_option maxRecDepth 100000
open Go.RowKit

/-- The leaves, one behind the other. -/
def leafB (l : List Nd) : List UInt8 := l.flatMap fun x => if x.inner then [] else x.text.data.toList
theorem leafB_snoc (l : List Nd) (x : Nd) : leafB (l ++ [x]) = leafB l ++ (if x.inner then [] else x.text.data.toList) := by simp [leafB]
theorem cat_data (a : ByteArray) (l : List UInt8) (h : a = mk l) (b : ByteArray) : a ++ b = mk (l ++ b.data.toList) := by rw [h, cat_mk]

set_option maxHeartbeats 3200000 in
theorem leafText_any (l : List Nd) (g cap : Nat) (w : World) (hl : l.length ≤ 100000) (ht : ∀ x ∈ l, x.text.size ≤ 10000) (hn : NA w g 0 l) :
    Calls Tryz.prog 16 #[.slice (some ⟨g, 0, none⟩) l.length cap] w fun e w' => e = .returned (.string (mk (leafB l))) ∧ Below w.heap.size w w' := by
  have HN := hide hn
  have HT := hide ht
  have hgl := hn.lt
  clear hn ht
  go_enter Tryz.func16, Tryz.ntmps16
  go_wp2_with fail
  go_loopw [3, 5, 8] (fun v _ i wr => ∃ (k : Nat) (o : ByteArray), k ≤ l.length ∧ i = .int .i64 k ∧ v = .string o ∧ Hid (o = mk (leafB (l.take k))) ∧ o.size ≤ k * 10000 ∧ Below w.heap.size w wr) (fun _ _ i _ => l.length - (intOf i).toNat)
  case atStart => exact ⟨0, ⟨#[]⟩, Nat.zero_le _, rfl, rfl, rfl, Nat.le_refl _, Below.refl _ _⟩
  case round =>
    obtain ⟨k, o, hk, rfl, rfl, HO, hos, hB⟩ := hrel
    have HB := hide hB
    have hsz := hB.size
    have hgr : g < wr.heap.size := by omega
    have hna := (unhide HN).below hB hgl
    by_cases hlt : k < l.length
    · have hx : l[k]? = some l[k] := List.getElem?_eq_getElem hlt
      obtain ⟨x0, x1, x2⟩ := hna.cell0 hx
      have hxt := unhide HT _ (List.getElem_mem hlt)
      have HI : Hid (leafB (l.take (k + 1)) = leafB (l.take k) ++ (if (l[k]'hlt).inner then [] else (l[k]'hlt).text.data.toList)) := by show _ = _; rw [List.take_succ_eq_append_getElem hlt, leafB_snoc]
      clear hna hB hx
      generalize (l[k]'hlt) = x at *
      cases hin : x.inner with
      | true =>
        rw [hin] at x0
        have HO2 : Hid (o = mk (leafB (l.take (k + 1)))) := by show o = _; rw [unhide HI, hin, unhide HO]; simp
        clear hin
        go_wp2_with fail
        go_roundw
        case rel => exact ⟨k + 1, o, by omega, by go_num, rfl, HO2, by omega, (unhide HB).alloc hsz _⟩
        case measure => simp [intOf]; omega
      | false =>
        rw [hin] at x0
        have HO2 : Hid (o ++ x.text = mk (leafB (l.take (k + 1)))) := by show _ = _; rw [unhide HI, hin, cat_data o _ (unhide HO)]; rfl
        clear hin
        go_wp2_with fail
        go_roundw
        case rel => exact ⟨k + 1, _, by omega, by go_num, rfl, HO2, by rw [ByteArray.size_append]; omega, (unhide HB).alloc hsz _⟩
        case measure => simp [intOf]; omega
    · have HTK : Hid (l.take k = l) := List.take_of_length_le (by omega)
      clear hna hB
      go_wp2_with fail
      go_ret
      exact ⟨ret_str (by rw [unhide HO, unhide HTK]), unhide HB⟩

theorem eq_nd (x y : Nd) (w : World) : (Op.equalIn 10000 54 (.agg #[.bool x.inner, .string x.text, .int .i64 x.depth]) (.agg #[.bool y.inner, .string y.text, .int .i64 y.depth])).run Tryz.prog w = .ok (x.inner == y.inner && x.text.toList == y.text.toList && x.depth == y.depth) w := by
  have u3 := Tryz.underlying3
  have u4 := Tryz.underlying4
  have u9 := Tryz.underlying9
  have a3 := Tryz.isAgg3
  have a4 := Tryz.isAgg4
  have a9 := Tryz.isAgg9
  have z3 := Tryz.sizeOf3
  have z4 := Tryz.sizeOf4
  have z9 := Tryz.sizeOf9
  have hS : Tryz.prog.underlying 54 = some (.struct (Tryz.prog.fieldsOf 54)) := by kernel_rfl
  have hp : Tryz.prog.stoodInHeld 54 = false := by kernel_rfl
  rw [show (10000 : Nat) = 9999 + 1 from rfl, run_equalIn_agg w 9999 54 _ _ hS hp]
  simp only [Program.fieldsOf, Tryz.underlying54]
  go_simp
  by_cases h1 : x.inner = y.inner <;> by_cases h2 : x.text.toList = y.text.toList <;> by_cases h3 : x.depth = y.depth <;> simp [h1, h2, h3]
theorem nd_eq_iff (x y : Nd) : (x.inner == y.inner && x.text.toList == y.text.toList && x.depth == y.depth) = true ↔ x = y := by
  simp only [Bool.and_eq_true, beq_iff_eq]
  constructor
  · rintro ⟨⟨h1, h2⟩, h3⟩
    cases x; cases y
    simp only at h1 h2 h3
    subst h1 h3
    rw [ba_same h2]
  · rintro rfl; exact ⟨⟨rfl, rfl⟩, rfl⟩

set_option maxHeartbeats 3200000 in
theorem isTreeOf_any (l : List Nd) (s : ByteArray) (g cap : Nat) (w : World) (hn : NA w g 0 l) :
    Calls Tryz.prog 17 #[.slice (some ⟨g, 0, none⟩) l.length cap, .string s] w fun e w' => Below w.heap.size w w' ∧ ∃ b, e = .returned (.bool b) ∧ (b = true ↔ outT s = .ok l) := by
  have HRD := hide (read_all s w)
  have HN := hide hn
  have hgl := hn.lt
  clear hn
  cases ho : outT s with
  | err c p =>
    rw [ho] at HRD
    have hc : (c != 0) = true := bne_iff_ne.2 (outT_ne ho).1
    clear ho
    go_enter Tryz.func17, Tryz.ntmps17
    go_wp2_with fail
    refine (unhide HRD).mono ?_
    rintro e w1 ⟨hB, rfl⟩
    have HB := hide hB
    clear hB
    go_wp2_with fail
    go_ret
    exact ⟨unhide HB, _, rfl, by simp⟩
  | ok m =>
    rw [ho] at HRD
    have hml : m.length ≤ 80 := by obtain ⟨l0, j, _, _, h, h2, _⟩ := outT_mod ho; rw [h, List.length_map]; exact h2
    clear ho
    go_enter Tryz.func17, Tryz.ntmps17
    go_wp2_with fail
    refine (unhide HRD).mono ?_
    rintro e w1 ⟨hB, g1, cap1, rfl, hg1, hown⟩
    have HB := hide hB
    have hsz := hB.size
    have HN1 := hide ((unhide HN).below hB hgl)
    have HM1 := hide (NA.of_own hown hg1 rfl)
    have hg1' : g < w1.heap.size := by omega
    clear hB hown HN HRD
    by_cases hll : l.length = m.length
    · have hll' : ((l.length : Int) != (m.length : Int)) = false := by simp [hll]
      go_wp2_with fail
      go_loopw [8, 9, 27] (fun _ _ i wr => ∃ k : Nat, k ≤ l.length ∧ i = .int .i64 k ∧ Hid (l.take k = m.take k) ∧ Below w1.heap.size w1 wr) (fun _ _ i _ => l.length - (intOf i).toNat)
      case atStart => exact ⟨0, Nat.zero_le _, rfl, rfl, Below.refl _ _⟩
      case round =>
        obtain ⟨k, hk, rfl, HK, hB2⟩ := hrel
        have HB2 : Hid (Below w.heap.size w wr) := (unhide HB).trans (hB2.mono hsz)
        have HBW := hide hB2
        have hszr := hB2.size
        have hgr : g < wr.heap.size := by omega
        have hgr1 : g1 < wr.heap.size := by omega
        by_cases hlt : k < l.length
        · have hx : l[k]? = some l[k] := List.getElem?_eq_getElem hlt
          have hltm : k < m.length := by omega
          have hy : m[k]? = some m[k] := List.getElem?_eq_getElem hltm
          obtain ⟨x0, x1, x2⟩ := ((unhide HN1).below hB2 hg1').cell0 hx
          obtain ⟨y0, y1, y2⟩ := ((unhide HM1).below hB2 hg1).cell0 hy
          have HT : Hid (l.take (k + 1) = l.take k ++ [l[k]] ∧ m.take (k + 1) = m.take k ++ [m[k]]) := ⟨List.take_succ_eq_append_getElem hlt, List.take_succ_eq_append_getElem hltm⟩
          have HNE : Hid (l[k] ≠ m[k] → l ≠ m) := fun h e => h (by subst e; rfl)
          clear hB2 hx hy
          generalize (l[k]'hlt) = x at *
          generalize (m[k]'hltm) = y at *
          have hm : Tryz.prog.eqGuardType Tryz.prog.depth 54 = false := by kernel_rfl
          have HEQ := hide (nd_eq_iff x y)
          have heq := fun wx => eq_nd x y wx
          generalize (x.inner == y.inner && x.text.toList == y.text.toList && x.depth == y.depth) = b at *
          cases b with
          | false =>
            have HNX : Hid (l ≠ m) := unhide HNE (fun e => by have := (unhide HEQ).2 e; cases this)
            go_wp2_with fail
            go_quiet (fail)
            go_wp2_with fail
            go_ret
            exact ⟨((unhide HB2).alloc (by omega) _).trans (below_drewN' _ _ _), _, rfl, by simp; exact fun h => unhide HNX h.symm⟩
          | true =>
            have HXY := hide ((unhide HEQ).1 rfl)
            go_wp2_with fail
            go_quiet (fail)
            go_wp2_with fail
            go_roundw
            case rel => exact ⟨k + 1, by omega, by go_num, by show _ = _; rw [(unhide HT).1, (unhide HT).2, unhide HK, unhide HXY], ((unhide HBW).alloc (Nat.le_trans (Nat.le_refl _) hszr) _).trans (below_drewN' _ _ _)⟩
            case measure => simp [intOf]; omega
        · have HLM : Hid (l = m) := by
            show l = m
            have := unhide HK
            rwa [List.take_of_length_le (by omega), List.take_of_length_le (by omega)] at this
          clear hB2
          go_wp2_with fail
          go_ret
          exact ⟨unhide HB2, _, rfl, by simp; exact (unhide HLM).symm⟩
    · have hll' : ((l.length : Int) != (m.length : Int)) = true := by simp; omega
      go_wp2_with fail
      go_ret
      exact ⟨unhide HB, _, rfl, by simp; intro h; exact hll (by rw [h])⟩

end Go.Proofs.YtdaneedflpfeaabGreatDoor

namespace Go.Proofs.YtdaneedflpfeaabGreatDoor
set_option maxRecDepth 100000
open Go.RowKit

theorem fine_rows {l : List Rw} (h1 : l.length ≤ 79) (h2 : ∀ x ∈ l, x.deep ≤ 1000 ∧ x.text.size ≤ 1000) : Fine 0 ((nodeR kProgram l).map (toNd 0)) := by
  rw [map_node]
  refine ⟨by simp, by simp; omega, fun x hx => ?_⟩
  rcases List.mem_cons.1 hx with rfl | hx
  · exact ⟨by decide, by decide, by decide⟩
  · obtain ⟨y, hy, rfl⟩ := List.mem_map.1 hx
    have := h2 y hy
    exact ⟨by show _ ≤ 0 + 1 + (y.deep : Int); omega, by show 0 + 1 + (y.deep : Int) ≤ _; omega, by show y.text.size ≤ _; omega⟩

/-- What Patch answers. -/
inductive PatchOut (a d : ByteArray) : ByteArray → Int → Int → Prop where
  | err (c p : Int) (h : outT a = .err c p) : PatchOut a d ⟨#[]⟩ c 0
  | long (n : List Nd) (h : outT a = .ok n) (hd : 9000 < d.size) : PatchOut a d ⟨#[]⟩ 1 0
  | bad (n : List Nd) (k : Nat) (h : outT a = .ok n) (hd : d.size ≤ 9000) (hr : scrN d n 0 1 = .bad k) : PatchOut a d ⟨#[]⟩ 5 k
  | none (n L : List Nd) (h : outT a = .ok n) (hd : d.size ≤ 9000) (hr : scrN d n 0 1 = .ok L) (ht : outT (mk (leafB L)) ≠ .ok L) : PatchOut a d ⟨#[]⟩ 6 0
  | ok (n L : List Nd) (h : outT a = .ok n) (hd : d.size ≤ 9000) (hr : scrN d n 0 1 = .ok L) (ht : outT (mk (leafB L)) = .ok L) : PatchOut a d (mk (leafB L)) 0 0
theorem scrN_bad (d : ByteArray) (l : List Nd) (a line k : Nat) (h : scrN d l a line = .bad k) : line ≤ k ∧ k ≤ line + (d.size - a) := by
  induction l, a, line using scrN.induct d with
  | case1 l a line h1 h2 h3 => rw [scrN, dif_pos h1, dif_pos h2, h3] at h; cases h; omega
  | case2 l a line h1 h2 st h3 h4 => rw [scrN, dif_pos h1, dif_pos h2, h3] at h; simp only [h4] at h; cases h; omega
  | case3 l a line h1 h2 st h3 m h4 ih =>
    rw [scrN, dif_pos h1, dif_pos h2, h3] at h
    simp only [h4] at h
    have := ih h
    have := lineE_ge d a (by omega)
    omega
  | case4 l a line h1 h2 => rw [scrN, dif_pos h1, dif_neg h2] at h; cases h; omega
  | case5 l a line h1 => rw [scrN, dif_neg h1] at h; cases h
theorem scrN_fine (d : ByteArray) (hd : d.size ≤ 9000) (l : List Nd) (a n : Nat) (L : List Nd) (h : scrN d l a (n + 1) = .ok L) (hf : Fine n l) (hn : n ≤ a) (ha : a ≤ d.size) : ∃ k, k ≤ d.size ∧ Fine k L := by
  generalize hl : n + 1 = line at h
  induction l, a, line using scrN.induct d generalizing n with
  | case1 l a line h1 h2 h3 => rw [scrN, dif_pos h1, dif_pos h2, h3] at h; cases h
  | case2 l a line h1 h2 st h3 h4 => rw [scrN, dif_pos h1, dif_pos h2, h3] at h; simp only [h4] at h; cases h
  | case3 l a line h1 h2 st h3 m h4 ih =>
    rw [scrN, dif_pos h1, dif_pos h2, h3] at h
    simp only [h4] at h
    have hge := lineE_ge d a (by omega)
    have hls : (lineL d a).length ≤ 10000 := by have := List.length_take_le (runE noLf d a - a) (d.data.toList.drop a); unfold lineL; omega
    have hfm := stepN_fine hf (stepW_small hls h3) h4
    exact ih (n + 1) hfm (by omega) (by omega) (by omega) h
  | case4 l a line h1 h2 => rw [scrN, dif_pos h1, dif_neg h2] at h; cases h
  | case5 l a line h1 => rw [scrN, dif_neg h1] at h; cases h; exact ⟨n, by omega, hf⟩

theorem leafB_len (l : List Nd) (h : ∀ x ∈ l, x.text.size ≤ 10000) : (leafB l).length ≤ l.length * 10000 := by
  induction l with
  | nil => simp [leafB]
  | cons x l ih =>
    have h1 := ih (fun y hy => h y (by simp [hy]))
    have h2 := h x (by simp)
    have e : leafB (x :: l) = (if x.inner then [] else x.text.data.toList) ++ leafB l := by simp [leafB]
    rw [e, List.length_append, List.length_cons]
    have : (if x.inner then ([] : List UInt8) else x.text.data.toList).length ≤ 10000 := by
      split
      · simp
      · exact h2
    omega

set_option maxHeartbeats 3200000 in
theorem patch_any (a d : ByteArray) (w : World) :
    Calls Tryz.prog 9 #[.string a, .string d] w fun e w' => Below w.heap.size w w' ∧ ∃ s c p, e = .returned (.tuple #[.string s, .int .i64 c, .int .i64 p]) ∧ PatchOut a d s c p := by
  have HRD := hide (read_all a w)
  cases ho : outT a with
  | err c p =>
    rw [ho] at HRD
    have hc : (c != 0) = true := bne_iff_ne.2 (outT_ne ho).1
    have HO := hide ho
    clear ho
    go_enter Tryz.func9, Tryz.ntmps9
    go_wp2_with fail
    refine (unhide HRD).mono ?_
    rintro e w1 ⟨hB, rfl⟩
    have HB := hide hB
    clear hB
    go_wp2_with fail
    go_ret3
    exact ⟨unhide HB, _, _, _, rfl, .err c p (unhide HO)⟩
  | ok nodes =>
    rw [ho] at HRD
    have HO := hide ho
    have HF : Hid (Fine 0 nodes) := by obtain ⟨l, e, _, _, h1, h2⟩ := ok_rows ho; show Fine 0 nodes; rw [e]; exact fine_rows h1 h2
    clear ho
    by_cases hd : 9000 < d.size
    · go_enter Tryz.func9, Tryz.ntmps9
      go_wp2_with fail
      refine (unhide HRD).mono ?_
      rintro e w1 ⟨hB, g1, cap1, rfl, hg1, hown⟩
      have HB := hide hB
      clear hB hown
      go_wp2_with fail
      go_ret3
      exact ⟨unhide HB, _, _, _, rfl, .long nodes (unhide HO) hd⟩
    · have HSB := hide (scrN_bad d nodes 0 1)
      have HSF := hide (fun L h => scrN_fine d (by omega) nodes 0 0 L h (unhide HF) (Nat.le_refl _) (Nat.zero_le _))
      go_enter Tryz.func9, Tryz.ntmps9
      go_wp2_with fail
      refine (unhide HRD).mono ?_
      rintro e w1 ⟨hB, g1, cap1, rfl, hg1, hown⟩
      have HB := hide hB
      have hsz := hB.size
      have hcc := own_cap hown
      have HNA := hide (NA.of_own hown hg1 rfl)
      clear hB hown HRD
      go_wp2_with fail
      refine (carryOut_any nodes d g1 cap1 _ (by omega) (unhide HF) hcc.1 hcc.2 (unhide HNA)).mono ?_
      rintro e w2 ⟨hB2, hr⟩
      have HB2 : Hid (Below w.heap.size w w2) := (unhide HB).trans (hB2.mono hsz)
      have hsz2 := hB2.size
      clear hB2
      cases hs : scrN d nodes 0 1 with
      | bad k =>
        rw [hs] at hr
        have hr' : e = .returned (.tuple #[.slice none 0 0, .int .i64 (k : Int)]) := hr
        subst hr'
        have hk := unhide HSB k hs
        have HOUT := hide (PatchOut.bad (d := d) nodes k (unhide HO) (by omega) hs)
        clear hr hs
        go_wp2_with fail
        go_ret3
        exact ⟨unhide HB2, _, _, _, rfl, unhide HOUT⟩
      | ok L =>
        rw [hs] at hr
        obtain ⟨g2, cap2, rfl, hna2⟩ := hr
        have HN2 := hide hna2
        have hg2 := hna2.lt
        obtain ⟨kk, hkk, hfk⟩ := unhide HSF L hs
        have hLl : L.length ≤ 100000 := by have := hfk.2.1; omega
        have HLT := hide (fun wx h => leafText_any L g2 cap2 wx hLl (fun x hx => (hfk.2.2 x hx).2.2) h)
        have HIT := hide (fun wx h => isTreeOf_any L (mk (leafB L)) g2 cap2 wx h)
        have HOK := hide (fun h => PatchOut.ok (d := d) nodes L (unhide HO) (by omega) hs h)
        have HNO := hide (fun h => PatchOut.none (d := d) nodes L (unhide HO) (by omega) hs h)
        clear hna2 hs hfk HSB HSF
        generalize hgm : mk (leafB L) = T at *
        go_wp2_with fail
        refine (unhide HLT _ (unhide HN2)).mono ?_
        rintro e w3 ⟨rfl, hB3⟩
        have HB3 : Hid (Below w.heap.size w w3) := (unhide HB2).trans (hB3.mono (by omega))
        have hsz3 := hB3.size
        have HN3 := hide ((unhide HN2).below hB3 hg2)
        clear hB3
        try rw [hgm]
        go_wp2_with fail
        refine (unhide HIT _ (unhide HN3)).mono ?_
        rintro e w4 ⟨hB4, b, rfl, hbi⟩
        have HB4 : Hid (Below w.heap.size w w4) := (unhide HB3).trans (hB4.mono (by omega))
        clear hB4
        cases b with
        | true =>
          have HFIN := hide (unhide HOK (hbi.1 rfl))
          clear hbi HOK HNO
          go_wp2_with fail
          go_ret3
          exact ⟨unhide HB4, _, _, _, rfl, unhide HFIN⟩
        | false =>
          have HFIN := hide (unhide HNO (fun h => by have := hbi.2 h; cases this))
          clear hbi HOK HNO
          go_wp2_with fail
          go_ret3
          exact ⟨unhide HB4, _, _, _, rfl, unhide HFIN⟩

end Go.Proofs.YtdaneedflpfeaabGreatDoor
