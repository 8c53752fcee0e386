import Derived.Test.YtdaneedflpfeaaaDoorRefNode
import Derived.Test.YtdaneedflpfeaaaDoorRowsOf
namespace Go.Proofs.YtdaneedflpfeaaaDoor
set_option maxRecDepth 100000
open Go.RowKit

/-! ## The document's reader, as functions on its state -/
def kindW (w : ByteArray) : ByteArray := if isTy w.toList then kType else w
/-- The document's tokens against ours. -/
structure Rel (rt : List RTok) (toks : List Tok) : Prop where
  len : toks.length = rt.length
  at_ : ∀ i t, toks[i]? = some t → ∃ r, rt[i]? = some r ∧ kindW r.what = t.kind ∧ r.at_ = t.place ∧ (t.kind ≠ kNone → r.whole = t.text) ∧ r.what ≠ kType ∧ (t.kind ≠ kNone → t.kind ≠ kEnd → i + 1 < rt.length)

/-- What the reader asks of the next token (or two). -/
def condR (toks : List Tok) (st : RSt) (c : Cond) : Bool := decide (st.bad < 0) && condA toks st.k c
def failT (toks : List Tok) (st : RSt) : RSt := if st.bad < 0 then { st with bad := match toks[st.k]? with | some t => t.place | none => 0 } else st
def textT (toks : List Tok) (k : Nat) : ByteArray := match toks[k]? with | some t => t.text | none => emptyB
def needT (toks : List Tok) (kd : ByteArray) (st : RSt) : List Rw × RSt := if condR toks st (.is kd.data.toList) then ([⟨0, false, textT toks st.k⟩], ⟨st.k + 1, st.bad⟩) else ([], failT toks st)
def takeT (toks : List Tok) (st : RSt) : List Rw × RSt := if st.bad < 0 then ([⟨0, false, textT toks st.k⟩], ⟨st.k + 1, st.bad⟩) else ([], st)
def fineR (l : List Rw) : Bool := decide (l.length ≤ 99999) && l.all fun x => decide (x.deep ≤ 99999)

def RI (toks : List Tok) (f : G → RSt → Option (List Rw × RSt)) : Gr → RSt → Option (List Rw × RSt)
  | .need kd, st => some (needT toks kd st)
  | .take, st => some (takeT toks st)
  | .call g, st => f g st
  | .seq a b, st => match RI toks f a st with
    | none => none
    | some (l, s1) => match RI toks f b s1 with
      | none => none
      | some (m, s2) => some (l ++ m, s2)
  | .ite c a b, st => if condR toks st c then RI toks f a st else RI toks f b st
  | .skip, st => some ([], st)
  | .node kd a, st => match RI toks f a st with
    | none => none
    | some (l, s1) => if fineR l then some (nodeR kd l, s1) else none
  | .wrap kd a c b, st => match RI toks f a st with
    | none => none
    | some (l, s1) => if condR toks s1 c then match RI toks f b s1 with
        | none => none
        | some (m, s2) => if fineR (l ++ m) then some (nodeR kd (l ++ m), s2) else none
      else some (l, s1)
/-- The document's rules: ours, but that it goes into no parameters where it has failed. -/
def rbody : G → Gr
  | .function => .node ⟨#[102, 117, 110, 99, 116, 105, 111, 110]⟩ (.seq (.need kType) (.seq (.need kName) (.seq (.need ⟨#[40]⟩) (.seq (.ite (.go [41]) (.call .params) .skip) (.seq (.need ⟨#[41]⟩) (.call .block))))))
  | g => body g
def Rg (toks : List Tok) : Nat → G → RSt → Option (List Rw × RSt)
  | 0, _, _ => none
  | n + 1, g, st => RI toks (Rg toks n) (rbody g) st

theorem RI_seq {toks : List Tok} {f : G → RSt → Option (List Rw × RSt)} {a b : Gr} {st : RSt} {r : List Rw} {s : RSt} (h : RI toks f (.seq a b) st = some (r, s)) :
    ∃ l s1 m, RI toks f a st = some (l, s1) ∧ RI toks f b s1 = some (m, s) ∧ r = l ++ m := by
  simp only [RI] at h
  split at h
  · cases h
  · rename_i l s1 h1
    split at h
    · cases h
    · rename_i m s2 h2
      cases h
      exact ⟨l, s1, m, h1, h2, rfl⟩
theorem RI_node {toks : List Tok} {f : G → RSt → Option (List Rw × RSt)} {a : Gr} {kd : ByteArray} {st : RSt} {r : List Rw} {s : RSt} (h : RI toks f (.node kd a) st = some (r, s)) :
    ∃ l, RI toks f a st = some (l, s) ∧ fineR l = true ∧ r = nodeR kd l := by
  simp only [RI] at h
  split at h
  · cases h
  · rename_i l s1 h1
    split at h
    · rename_i hf
      cases h
      exact ⟨l, h1, hf, rfl⟩
    · cases h
theorem RI_wrap {toks : List Tok} {f : G → RSt → Option (List Rw × RSt)} {a b : Gr} {c : Cond} {kd : ByteArray} {st : RSt} {r : List Rw} {s : RSt} (h : RI toks f (.wrap kd a c b) st = some (r, s)) :
    ∃ l s1, RI toks f a st = some (l, s1) ∧ ((condR toks s1 c = true ∧ ∃ m, RI toks f b s1 = some (m, s) ∧ fineR (l ++ m) = true ∧ r = nodeR kd (l ++ m)) ∨ (condR toks s1 c = false ∧ r = l ∧ s = s1)) := by
  simp only [RI] at h
  split at h
  · cases h
  · rename_i l s1 h1
    split at h
    · rename_i hc
      split at h
      · cases h
      · rename_i m s2 h2
        split at h
        · rename_i hf
          cases h
          exact ⟨l, s1, h1, .inl ⟨hc, m, h2, hf, rfl⟩⟩
        · cases h
    · rename_i hc
      cases h
      exact ⟨_, _, h1, .inr ⟨by simpa using hc, rfl, rfl⟩⟩
theorem RI_ite {toks : List Tok} {f : G → RSt → Option (List Rw × RSt)} {a b : Gr} {c : Cond} {st : RSt} {r : List Rw × RSt} (h : RI toks f (.ite c a b) st = some r) :
    (condR toks st c = true ∧ RI toks f a st = some r) ∨ (condR toks st c = false ∧ RI toks f b st = some r) := by
  simp only [RI] at h
  split at h
  · rename_i hc; exact .inl ⟨hc, h⟩
  · rename_i hc; exact .inr ⟨by simpa using hc, h⟩
theorem RI_need {toks : List Tok} {f : G → RSt → Option (List Rw × RSt)} {kd : ByteArray} {st : RSt} {l : List Rw} {s : RSt} (h : RI toks f (.need kd) st = some (l, s)) : l = (needT toks kd st).1 ∧ s = (needT toks kd st).2 := by
  simp only [RI] at h
  have := Option.some.inj h
  exact ⟨by rw [this], by rw [this]⟩
theorem RI_take {toks : List Tok} {f : G → RSt → Option (List Rw × RSt)} {st : RSt} {l : List Rw} {s : RSt} (h : RI toks f .take st = some (l, s)) : l = (takeT toks st).1 ∧ s = (takeT toks st).2 := by
  simp only [RI] at h
  have := Option.some.inj h
  exact ⟨by rw [this], by rw [this]⟩
theorem RI_skip {toks : List Tok} {f : G → RSt → Option (List Rw × RSt)} {st : RSt} {l : List Rw} {s : RSt} (h : RI toks f .skip st = some (l, s)) : l = [] ∧ s = st := by cases h; exact ⟨rfl, rfl⟩

/-! ## The words that it asks for, and our kinds -/
theorem kindW_eq {w x : ByteArray} (hx : isTy x.toList = false) (hk : x ≠ kType) : kindW w = x ↔ w = x := by
  unfold kindW
  constructor
  · intro h
    split at h
    · exact absurd h.symm hk
    · exact h
  · rintro rfl; rw [if_neg (by rw [hx]; exact Bool.false_ne_true)]
theorem kindW_ty {w : ByteArray} (hw : w ≠ kType) : kindW w = kType ↔ isTy w.toList = true := by
  unfold kindW
  constructor
  · intro h
    split at h
    · assumption
    · exact absurd h hw
  · intro h; rw [if_pos h]
theorem ba_beq (a b : ByteArray) : (a.toList == b.toList) = decide (a = b) := by
  rw [Bool.eq_iff_iff]
  simp only [beq_iff_eq, decide_eq_true_eq]
  exact ⟨ba_ext, fun h => by rw [h]⟩
/-- A word that is asked for by itself. -/
def plainW (x : ByteArray) : Bool := !isTy x.data.toList && decide (x ≠ kType) && decide (x ≠ kNone)
def tyW : List ByteArray := [⟨#[105, 110, 116]⟩, ⟨#[99, 104, 97, 114]⟩, ⟨#[118, 111, 105, 100]⟩]
theorem isR_plain {rt : List RTok} {toks : List Tok} (R : Rel rt toks) {st : RSt} (hk : st.k < rt.length) (ws : List ByteArray) (hw : ws.all plainW = true) :
    isR rt st ws = (decide (st.bad < 0) && ws.any fun x => (kindA toks st.k).data.toList == x.data.toList) := by
  obtain ⟨t, ht⟩ : ∃ t, toks[st.k]? = some t := ⟨toks[st.k]'(by rw [R.len]; exact hk), List.getElem?_eq_getElem _⟩
  obtain ⟨r, hr, hkd, _⟩ := R.at_ st.k t ht
  unfold isR whatR kindA
  rw [hr, ht]
  congr 1
  rw [Bool.eq_iff_iff, List.any_eq_true, List.any_eq_true]
  constructor
  · rintro ⟨x, hx, he⟩
    refine ⟨x, hx, ?_⟩
    have hp := List.all_eq_true.1 hw x hx
    simp only [plainW, Bool.and_eq_true, Bool.not_eq_true', decide_eq_true_eq] at hp
    rw [ba_beq, decide_eq_true_eq] at he
    rw [beq_iff_eq]
    show t.kind.data.toList = _
    rw [← hkd, (kindW_eq (by rw [Go.ByteArray.toList_eq]; exact hp.1.1) hp.1.2).2 he]
  · rintro ⟨x, hx, he⟩
    refine ⟨x, hx, ?_⟩
    have hp := List.all_eq_true.1 hw x hx
    simp only [plainW, Bool.and_eq_true, Bool.not_eq_true', decide_eq_true_eq] at hp
    rw [ba_beq, decide_eq_true_eq]
    have he' : t.kind.data.toList = x.data.toList := by simpa using he
    exact (kindW_eq (by rw [Go.ByteArray.toList_eq]; exact hp.1.1) hp.1.2).1 (hkd.trans (ByteArray.ext (Array.toList_inj.mp he')))
theorem isR_ty {rt : List RTok} {toks : List Tok} (R : Rel rt toks) {st : RSt} (hk : st.k < rt.length) : isR rt st tyW = condR toks st (.is kType.data.toList) := by
  obtain ⟨t, ht⟩ : ∃ t, toks[st.k]? = some t := ⟨toks[st.k]'(by rw [R.len]; exact hk), List.getElem?_eq_getElem _⟩
  obtain ⟨r, hr, hkd, _, _, hnt, _⟩ := R.at_ st.k t ht
  unfold isR whatR condR condA condK kindA
  rw [hr, ht]
  congr 1
  rw [Bool.eq_iff_iff]
  show (tyW.any fun x => r.what.toList == x.toList) = true ↔ (t.kind.data.toList == kType.data.toList) = true
  have h1 : (t.kind.data.toList == kType.data.toList) = true ↔ t.kind = kType := by
    rw [beq_iff_eq]
    exact ⟨fun h => ByteArray.ext (Array.toList_inj.mp h), fun h => by rw [h]⟩
  rw [h1, ← hkd, kindW_ty hnt, isTy_iff]
  simp only [tyW, List.any_cons, List.any_nil, Bool.or_false, ba_beq, Bool.or_eq_true, decide_eq_true_eq]
theorem fail_eq {rt : List RTok} {toks : List Tok} (R : Rel rt toks) {st : RSt} (hk : st.k < rt.length) : failR rt st = failT toks st := by
  obtain ⟨t, ht⟩ : ∃ t, toks[st.k]? = some t := ⟨toks[st.k]'(by rw [R.len]; exact hk), List.getElem?_eq_getElem _⟩
  obtain ⟨r, hr, _, ha, _⟩ := R.at_ st.k t ht
  unfold failR failT
  rw [hr, ht]
  simp only [ha]
/-- What need makes, where its words are one kind of ours. -/
theorem need_eq {rt : List RTok} {toks : List Tok} (R : Rel rt toks) {st : RSt} (hk : st.k < rt.length) (ws : List ByteArray) (kd : ByteArray) (hkd : kd ≠ kNone) (h : isR rt st ws = condR toks st (.is kd.data.toList)) :
    needR rt ws st = needT toks kd st ∧ (kd ≠ kEnd → isR rt st ws = true → st.k + 1 < rt.length) := by
  obtain ⟨t, ht⟩ : ∃ t, toks[st.k]? = some t := ⟨toks[st.k]'(by rw [R.len]; exact hk), List.getElem?_eq_getElem _⟩
  obtain ⟨r, hr, _, ha, hw, _, hn⟩ := R.at_ st.k t ht
  have hc : condR toks st (.is kd.data.toList) = true → t.kind = kd := by
    intro hc
    simp only [condR, condA, condK, kindA, ht, Bool.and_eq_true, beq_iff_eq] at hc
    exact ByteArray.ext (Array.toList_inj.mp hc.2)
  constructor
  · unfold needR needT
    rw [h, fail_eq R hk]
    split
    · rename_i hc2
      have hkk := hc hc2
      simp only [wholeR, textT, hr, ht, hw (by rw [hkk]; exact hkd)]
    · rfl
  · intro he hi
    rw [h] at hi
    have hkk := hc hi
    exact hn (by rw [hkk]; exact hkd) (by rw [hkk]; exact he)

end Go.Proofs.YtdaneedflpfeaaaDoor
