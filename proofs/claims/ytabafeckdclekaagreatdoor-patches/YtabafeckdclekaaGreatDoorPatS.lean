import Derived.Test.YtabafeckdclekaaGreatDoorPatR
namespace Go.Proofs.YtabafeckdclekaaGreatDoor
set_option maxRecDepth 100000
open Go.RowKit

def stepN (l : List Nd) : Stp → Option (List Nd)
  | .ren k b t => renN l k b t
  | .del k => remN l k
  | .ins p i n b t => insN l p i n b t
def Stp.small : Stp → Prop
  | .ren k _ t => k ≤ 999999 ∧ t.size ≤ 10000
  | .del k => k ≤ 999999
  | .ins p i n _ t => p ≤ 999999 ∧ i ≤ 999999 ∧ n ≤ 999999 ∧ t.size ≤ 10000
theorem ListR.up {w w1 w' : World} {o : Option (List Nd)} {e : Ending} (h : ListR w1 o e w') (hb : Below w.heap.size w w1) : ListR w o e w' := by
  obtain ⟨h1, h2⟩ := h
  refine ⟨hb.trans (h1.mono hb.size), ?_⟩
  cases o with
  | none => exact h2
  | some m => obtain ⟨v, e1, h3⟩ := h2; exact ⟨v, e1, ownsRow_base h3 hb.size⟩

set_option maxHeartbeats 3200000 in
theorem stepCarry_any (st : Stp) (l : List Nd) (g cap : Nat) (w : World) (hs : st.small) (hl : l.length ≤ 1000000) (hcap : l.length ≤ cap) (hcm : cap ≤ maxLen) (hd : Deep l) (hn : NA w g 0 l) :
    Calls Tryz.prog 20 #[.agg st.cells, .slice (some ⟨g, 0, none⟩) l.length cap] w fun e w' => ListR w (stepN l st) e w' := by
  have HNX : Hid (∀ o, NA (w.alloc o) g 0 l) := fun o => hn.heap (heap_alloc_old _ _ hn.lt)
  have HUP : Hid (∀ o r e w', ListR (w.alloc o) r e w' → ListR w r e w') := fun o r e w' h => h.up ((Below.refl _ _).alloc (Nat.le_refl _) _)
  have HD := hide hd
  clear hn hd
  cases st with
  | ren k b t =>
    obtain ⟨h1, h2⟩ := hs
    show Calls _ _ #[.agg (stA ⟨#[114]⟩ k 0 0 b t), _] _ fun e w' => ListR w (renN l k b t) e w'
    have HC : Hid (∀ wx, NA wx g 0 l → Calls Tryz.prog 41 #[.slice (some ⟨g, 0, none⟩) l.length cap, .int .i64 (k : Int), .agg #[.bool b, .string t, .int .i64 0]] wx fun e w' => ListR wx (renN l k b t) e w') := fun wx hx => rename_any l k g cap b t wx hl (by omega) (unhide HD) hx
    generalize renN l k b t = r at *
    go_enter Tryz.func20, Tryz.ntmps20
    go_wp2_with fail
    refine (unhide HC _ (unhide HNX _)).mono ?_
    intro e w1 hr
    have HR := hide (unhide HUP _ _ _ _ hr)
    obtain ⟨_, h3⟩ := hr
    cases r with
    | none =>
      have h3' : e = .returned (.tuple #[.slice none 0 0, .bool false]) := h3
      subst h3'
      clear h3
      go_wp2_with fail
      go_ret2
      exact unhide HR
    | some m =>
      obtain ⟨v, h3', _⟩ := h3
      subst h3'
      go_wp2_with fail
      go_ret2
      exact unhide HR
  | del k =>
    have h1 : k ≤ 999999 := hs
    show Calls _ _ #[.agg (stA ⟨#[100]⟩ k 0 0 false ⟨#[]⟩), _] _ fun e w' => ListR w (remN l k) e w'
    have HC : Hid (∀ wx, NA wx g 0 l → Calls Tryz.prog 42 #[.slice (some ⟨g, 0, none⟩) l.length cap, .int .i64 (k : Int)] wx fun e w' => ListR wx (remN l k) e w') := fun wx hx => remove_any l k g cap wx hl hcap hcm (by omega) (unhide HD) hx
    generalize remN l k = r at *
    go_enter Tryz.func20, Tryz.ntmps20
    go_wp2_with fail
    refine (unhide HC _ (unhide HNX _)).mono ?_
    intro e w1 hr
    have HR := hide (unhide HUP _ _ _ _ hr)
    obtain ⟨_, h3⟩ := hr
    cases r with
    | none =>
      have h3' : e = .returned (.tuple #[.slice none 0 0, .bool false]) := h3
      subst h3'
      clear h3
      go_wp2_with fail
      go_ret2
      exact unhide HR
    | some m =>
      obtain ⟨v, h3', _⟩ := h3
      subst h3'
      go_wp2_with fail
      go_ret2
      exact unhide HR
  | ins p i n b t =>
    obtain ⟨h1, h2, h3, h4⟩ := hs
    show Calls _ _ #[.agg (stA ⟨#[105]⟩ p i n b t), _] _ fun e w' => ListR w (insN l p i n b t) e w'
    have HC : Hid (∀ wx, NA wx g 0 l → Calls Tryz.prog 43 #[.agg (stA ⟨#[105]⟩ p i n b t), .slice (some ⟨g, 0, none⟩) l.length cap] wx fun e w' => ListR wx (insN l p i n b t) e w') := fun wx hx => insert_any l p i n g cap _ b t wx hl hcap hcm (by omega) (by omega) (by omega) (unhide HD) hx
    generalize insN l p i n b t = r at *
    go_enter Tryz.func20, Tryz.ntmps20
    go_wp2_with fail
    refine (unhide HC _ (unhide HNX _)).mono ?_
    intro e w1 hr
    have HR := hide (unhide HUP _ _ _ _ hr)
    obtain ⟨_, h3⟩ := hr
    cases r with
    | none =>
      have h3' : e = .returned (.tuple #[.slice none 0 0, .bool false]) := h3
      subst h3'
      clear h3
      go_wp2_with fail
      go_ret2
      exact unhide HR
    | some m =>
      obtain ⟨v, h3', _⟩ := h3
      subst h3'
      go_wp2_with fail
      go_ret2
      exact unhide HR

/-! ## What a step leaves small -/
def Fine (n : Nat) (l : List Nd) : Prop := 1 ≤ l.length ∧ l.length ≤ 80 + n ∧ ∀ x ∈ l, -(2000 + (n : Int)) ≤ x.depth ∧ x.depth ≤ 2000 + n ∧ x.text.size ≤ 10000
theorem Fine.deep {n : Nat} {l : List Nd} (h : Fine n l) (hn : n ≤ 100000) : Deep l := fun x hx => by have := h.2.2 x hx; omega
theorem sh_fine {n : Nat} {l : List Nd} {d : Int} (hd : -1 ≤ d ∧ d ≤ 1) (h : ∀ x ∈ l, -(2000 + (n : Int)) ≤ x.depth ∧ x.depth ≤ 2000 + n ∧ x.text.size ≤ 10000) : ∀ x ∈ l.map (shN d), -(2000 + ((n + 1 : Nat) : Int)) ≤ x.depth ∧ x.depth ≤ 2000 + ((n + 1 : Nat) : Int) ∧ x.text.size ≤ 10000 := by
  intro x hx
  obtain ⟨y, hy, rfl⟩ := List.mem_map.1 hx
  have := h y hy
  show -(2000 + ((n + 1 : Nat) : Int)) ≤ y.depth + d ∧ y.depth + d ≤ 2000 + ((n + 1 : Nat) : Int) ∧ y.text.size ≤ 10000
  omega
theorem stepN_fine {n : Nat} {l m : List Nd} {st : Stp} (h : Fine n l) (hs : st.small) (hm : stepN l st = some m) : Fine (n + 1) m := by
  obtain ⟨h1, h2, h3⟩ := h
  have h3' : ∀ x ∈ l, -(2000 + ((n + 1 : Nat) : Int)) ≤ x.depth ∧ x.depth ≤ 2000 + ((n + 1 : Nat) : Int) ∧ x.text.size ≤ 10000 := fun x hx => by have := h3 x hx; omega
  cases st with
  | ren k b t =>
    obtain ⟨_, ht⟩ := hs
    simp only [stepN, renN] at hm
    split at hm
    · cases hm
    · split at hm
      · cases hm
      · split at hm
        · rename_i x hx
          cases hm
          refine ⟨by rw [List.length_set]; exact h1, by rw [List.length_set]; omega, fun y hy => ?_⟩
          rcases List.mem_or_eq_of_mem_set hy with hy | rfl
          · exact h3' y hy
          · have := h3' x (List.mem_of_getElem? hx); exact ⟨this.1, this.2.1, ht⟩
        · cases hm
  | del k =>
    simp only [stepN, remN] at hm
    split at hm
    · cases hm
    · rename_i hk
      cases hm
      have hsub := subE_le (l := l) (k := k) (by omega)
      refine ⟨?_, ?_, fun y hy => ?_⟩
      · simp only [List.length_append, List.length_take, List.length_map, List.length_drop]; omega
      · simp only [List.length_append, List.length_take, List.length_map, List.length_drop]; omega
      · rcases List.mem_append.1 hy with hy | hy
        · rcases List.mem_append.1 hy with hy | hy
          · exact h3' y (List.mem_of_mem_take hy)
          · exact sh_fine (by omega) (fun x hx => h3 x (List.mem_of_mem_drop (List.mem_of_mem_take hx))) y hy
        · exact h3' y (List.mem_of_mem_drop hy)
  | ins p i k b t =>
    obtain ⟨_, _, _, ht⟩ := hs
    simp only [stepN, insN] at hm
    split at hm
    · cases hm
    · rename_i x hx
      have hp : p < l.length := by
        rcases Nat.lt_or_ge p l.length with g | g
        · exact g
        · rw [List.getElem?_eq_none g] at hx; cases hx
      have hsub := subE_le hp
      have hpf := pastE_le (l := l) (limit := subE l p) (by omega) i (p + 1) (by omega)
      have hpe := pastE_le (l := l) (limit := subE l p) (by omega) k (pastE l (subE l p) i (p + 1)).1 (by omega)
      split at hm
      · cases hm
      · split at hm
        · cases hm
        · split at hm
          · cases hm
          · cases hm
            generalize (pastE l (subE l p) k (pastE l (subE l p) i (p + 1)).1).1 = e at *
            generalize (pastE l (subE l p) i (p + 1)).1 = f at *
            refine ⟨?_, ?_, fun y hy => ?_⟩
            · simp only [List.length_append, List.length_take, List.length_map, List.length_drop, List.length_cons, List.length_nil]; omega
            · simp only [List.length_append, List.length_take, List.length_map, List.length_drop, List.length_cons, List.length_nil]; omega
            · rcases List.mem_append.1 hy with hy | hy
              · rcases List.mem_append.1 hy with hy | hy
                · rcases List.mem_append.1 hy with hy | hy
                  · exact h3' y (List.mem_of_mem_take hy)
                  · simp at hy; subst hy
                    have := h3 x (List.mem_of_getElem? hx)
                    exact ⟨by show _ ≤ x.depth + 1; omega, by show x.depth + 1 ≤ _; omega, ht⟩
                · exact sh_fine (by omega) (fun x hx => h3 x (List.mem_of_mem_drop (List.mem_of_mem_take hx))) y hy
              · exact h3' y (List.mem_of_mem_drop hy)
theorem unL_len (n : Nat) : ∀ l o, l.length ≤ n → unL l = some o → o.length ≤ l.length := by
  induction n with
  | zero =>
    intro l o hl h
    have : l = [] := List.eq_nil_of_length_eq_zero (by omega)
    subst this
    rw [unL_nil] at h; cases h; simp
  | succ n ih =>
    intro l o hl h
    by_cases h0 : (unB l).2 = 0
    · by_cases hl0 : l = []
      · subst hl0; rw [unL_nil] at h; cases h; simp
      · rw [unL_no h0 hl0] at h; cases h
    · rw [unL_yes h0] at h
      obtain ⟨o', ho', rfl⟩ := Option.map_eq_some_iff.1 h
      have hle := unB_le l
      have := ih (l.drop (unB l).2) o' (by rw [List.length_drop]; omega) ho'
      rw [List.length_drop] at this
      rw [List.length_cons]; omega
theorem labV_len {l t : List UInt8} {b : Bool} (h : labV l = some (b, t)) : t.length ≤ l.length := by
  cases l with
  | nil => cases h
  | cons c l =>
    rw [labV] at h
    split at h
    · cases h; simp
    · split at h
      · obtain ⟨o, ho, e⟩ := Option.map_eq_some_iff.1 h
        cases e
        have := unL_len l.length l t (Nat.le_refl _) ho
        simp; omega
      · cases h
theorem stepW_small {l : List UInt8} {st : Stp} (hl : l.length ≤ 10000) (h : stepW (splitL 32 l) = some st) : st.small := by
  have hsz := splitL_size 32 l
  generalize splitL 32 l = W at *
  match W, h with
  | [x, a, b], h =>
    simp only [stepW] at h
    split at h
    · split at h
      · rename_i k lb h1 h2
        cases h
        have := labV_len (b := lb.1) (t := lb.2) h2
        have := hsz b (by simp)
        exact ⟨numV_bd h1, by rw [mk_size]; omega⟩
      · cases h
    · cases h
  | [x, a], h =>
    simp only [stepW] at h
    split at h
    · obtain ⟨k, hk, rfl⟩ := Option.map_eq_some_iff.1 h
      exact numV_bd hk
    · cases h
  | [x, a, b, c, d], h =>
    simp only [stepW] at h
    split at h
    · split at h
      · rename_i p i n lb h1 h2 h3 h4
        cases h
        have := labV_len (b := lb.1) (t := lb.2) h4
        have := hsz d (by simp)
        exact ⟨numV_bd h1, numV_bd h2, numV_bd h3, by rw [mk_size]; omega⟩
      · cases h
    · cases h

end Go.Proofs.YtabafeckdclekaaGreatDoor
