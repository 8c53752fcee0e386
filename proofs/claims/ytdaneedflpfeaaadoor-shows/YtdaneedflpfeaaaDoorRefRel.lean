import Derived.Test.YtdaneedflpfeaaaDoorRefTwin
namespace Go.Proofs.YtdaneedflpfeaaaDoor
set_option maxRecDepth 100000
open Go.RowKit

theorem isTy_kind (raw : ByteArray) (h : isTy raw.toList = false) : isTy (kindB raw).toList = false := by
  have n1 : isTy kNone.toList = false := by rw [Go.ByteArray.toList_eq]; decide
  have n3 : isTy kName.toList = false := by rw [Go.ByteArray.toList_eq]; decide
  have n4 : isTy kNumber.toList = false := by rw [Go.ByteArray.toList_eq]; decide
  unfold kindB
  split
  · exact n1
  split
  · rename_i h2; rw [h] at h2; cases h2
  split
  · exact h
  split
  · exact n3
  split
  · exact n4
  · exact h
theorem kindW_what (raw : ByteArray) (h0 : raw.toList.isEmpty = false) : kindW (whatB raw) = kindB raw := by
  unfold whatB
  cases h : isTy raw.toList with
  | true =>
    rw [if_pos rfl]
    unfold kindW kindB
    rw [h, h0]; rfl
  | false =>
    rw [if_neg Bool.false_ne_true]
    unfold kindW
    rw [isTy_kind raw h]; rfl
theorem what_ty (raw : ByteArray) : whatB raw ≠ kType := by
  have n1 : kNone ≠ kType := by decide
  have n3 : kName ≠ kType := by decide
  have n4 : kNumber ≠ kType := by decide
  have hT : isTy kType.toList = false := by rw [Go.ByteArray.toList_eq]; decide
  have hK : isKw kType.toList = false := by rw [Go.ByteArray.toList_eq]; decide
  have hL : letterB (bt kType 0) = true := by decide
  intro e
  unfold whatB at e
  by_cases h : isTy raw.toList = true
  · rw [if_pos h] at e; rw [e, hT] at h; cases h
  rw [if_neg h] at e
  unfold kindB at e
  rw [if_neg h] at e
  by_cases h1 : raw.toList.isEmpty = true
  · rw [if_pos h1] at e; exact n1 e
  rw [if_neg h1] at e
  by_cases h2 : isKw raw.toList = true
  · rw [if_pos h2] at e; rw [e, hK] at h2; cases h2
  rw [if_neg h2] at e
  by_cases h3 : letterB (bt raw 0) = true
  · rw [if_pos h3] at e; exact n3 e
  rw [if_neg h3] at e
  by_cases h4 : digitB (bt raw 0) = true
  · rw [if_pos h4] at e; exact n4 e
  rw [if_neg h4] at e
  rw [e] at h3; exact h3 hL
theorem rscan_pos (s : ByteArray) (i : Nat) : 0 < (rscan s i).length := by
  rw [rscan]
  split <;> simp
theorem Rel.cons {rt : List RTok} {toks : List Tok} (h : Rel rt toks) (hp : 0 < rt.length) (r : RTok) (t : Tok) (h1 : kindW r.what = t.kind) (h2 : r.at_ = t.place) (h3 : r.whole = t.text) (h4 : r.what ≠ kType) : Rel (r :: rt) (t :: toks) := by
  refine ⟨by simp [h.len], fun i u hu => ?_⟩
  cases i with
  | zero =>
    simp at hu
    subst hu
    exact ⟨r, by simp, h1, h2, fun _ => h3, h4, fun _ _ => by simp; omega⟩
  | succ i =>
    rw [List.getElem?_cons_succ] at hu
    obtain ⟨q, hq, a1, a2, a3, a4, a5⟩ := h.at_ i u hu
    exact ⟨q, by rw [List.getElem?_cons_succ]; exact hq, a1, a2, a3, a4, fun b1 b2 => by have := a5 b1 b2; simp; omega⟩
/-- The document's tokens are ours. -/
theorem rel_scan (s : ByteArray) : ∀ n i, i ≤ s.size → s.size < n + i → Rel (rscan s i) (scanL s i) := by
  intro n
  induction n with
  | zero => intro i h1 h2; omega
  | succ n ih =>
    intro i hi hn
    have ha := aheadE_bd s i hi
    have ht := tokenE_bd s (aheadE s i) ha.2
    by_cases hlt : aheadE s i < tokenE s (aheadE s i)
    · rw [rscan_go hi rfl rfl hlt, scanL_go hi rfl rfl hlt]
      have hx := bt_ext s (aheadE s i) (tokenE s (aheadE s i)) hlt ht.2
      refine (ih (tokenE s (aheadE s i)) ht.2 (by omega)).cons (rscan_pos _ _) _ _ (kindW_what _ ?_) rfl rfl (what_ty _)
      rw [Go.ByteArray.toList_eq, Bool.eq_false_iff]
      intro e
      rw [List.isEmpty_iff] at e
      have : (s.extract (aheadE s i) (tokenE s (aheadE s i))).size = 0 := by
        show (s.extract (aheadE s i) (tokenE s (aheadE s i))).data.size = 0
        rw [← Array.length_toList, e]; rfl
      omega
    · rw [rscan_stop rfl hlt, scanL_stop rfl hlt]
      refine ⟨rfl, fun j u hu => ?_⟩
      cases j with
      | succ j => simp at hu
      | zero =>
        simp at hu
        subst hu
        by_cases hp : aheadE s i < s.size
        · refine ⟨⟨kNone, aheadE s i, emptyB⟩, by simp [hp], ?_, rfl, fun h => ?_, (show kNone ≠ kType by decide), fun h => ?_⟩
          · simp only [hp, if_true]; unfold kindW; rw [show isTy kNone.toList = false from by rw [Go.ByteArray.toList_eq]; decide]; rfl
          · simp only [hp, if_true] at h; exact absurd rfl h
          · simp only [hp, if_true] at h; exact absurd rfl h
        · refine ⟨⟨kEnd, aheadE s i, s.extract i (aheadE s i)⟩, by simp [hp], ?_, rfl, fun _ => rfl, (show kEnd ≠ kType by decide), fun _ h => ?_⟩
          · simp only [hp, if_false]; unfold kindW; rw [show isTy kEnd.toList = false from by rw [Go.ByteArray.toList_eq]; decide]; rfl
          · simp only [hp, if_false] at h; exact absurd rfl h

end Go.Proofs.YtdaneedflpfeaaaDoor
