import Derived.Test.YtdaneedflpfeaaaDoorRefToks
namespace Go.Proofs.YtdaneedflpfeaaaDoor
set_option maxRecDepth 100000
open Go.RowKit

theorem ba_ext {a b : ByteArray} (h : a.toList = b.toList) : a = b := by
  rw [Go.ByteArray.toList_eq, Go.ByteArray.toList_eq] at h
  exact ByteArray.ext (Array.toList_inj.mp h)

def kindD (t : ByteArray) : ByteArray :=
  if t.data.toList.isEmpty then kNone else if isTy t.data.toList then kType else if isKw t.data.toList then t else if letterB (bt t 0) then kName else if digitB (bt t 0) then kNumber else t
theorem kindB_D (t : ByteArray) : kindB t = kindD t := by unfold kindB kindD; rw [Go.ByteArray.toList_eq]
def whatD (raw : ByteArray) : ByteArray := if isTy raw.data.toList then raw else kindD raw
theorem whatB_D (t : ByteArray) : whatB t = whatD t := by unfold whatB whatD; rw [Go.ByteArray.toList_eq, kindB_D]

theorem isTy_iff (t : ByteArray) : isTy t.toList = true ↔ t = ⟨#[105, 110, 116]⟩ ∨ t = ⟨#[99, 104, 97, 114]⟩ ∨ t = ⟨#[118, 111, 105, 100]⟩ := by
  have e1 : (⟨#[105, 110, 116]⟩ : ByteArray).toList = [105, 110, 116] := by rw [Go.ByteArray.toList_eq]
  have e2 : (⟨#[99, 104, 97, 114]⟩ : ByteArray).toList = [99, 104, 97, 114] := by rw [Go.ByteArray.toList_eq]
  have e3 : (⟨#[118, 111, 105, 100]⟩ : ByteArray).toList = [118, 111, 105, 100] := by rw [Go.ByteArray.toList_eq]
  constructor
  · intro h
    simp only [isTy, Bool.or_eq_true, beq_iff_eq] at h
    rcases h with (h | h) | h
    · exact .inl (ba_ext (h.trans e1.symm))
    · exact .inr (.inl (ba_ext (h.trans e2.symm)))
    · exact .inr (.inr (ba_ext (h.trans e3.symm)))
  · rintro (rfl | rfl | rfl)
    · rw [e1]; rfl
    · rw [e2]; rfl
    · rw [e3]; rfl
theorem isKw_iff (t : ByteArray) : isKw t.toList = true ↔ t = ⟨#[105, 102]⟩ ∨ t = ⟨#[101, 108, 115, 101]⟩ ∨ t = ⟨#[119, 104, 105, 108, 101]⟩ ∨ t = ⟨#[114, 101, 116, 117, 114, 110]⟩ := by
  have e1 : (⟨#[105, 102]⟩ : ByteArray).toList = [105, 102] := by rw [Go.ByteArray.toList_eq]
  have e2 : (⟨#[101, 108, 115, 101]⟩ : ByteArray).toList = [101, 108, 115, 101] := by rw [Go.ByteArray.toList_eq]
  have e3 : (⟨#[119, 104, 105, 108, 101]⟩ : ByteArray).toList = [119, 104, 105, 108, 101] := by rw [Go.ByteArray.toList_eq]
  have e4 : (⟨#[114, 101, 116, 117, 114, 110]⟩ : ByteArray).toList = [114, 101, 116, 117, 114, 110] := by rw [Go.ByteArray.toList_eq]
  constructor
  · intro h
    simp only [isKw, Bool.or_eq_true, beq_iff_eq] at h
    rcases h with ((h | h) | h) | h
    · exact .inl (ba_ext (h.trans e1.symm))
    · exact .inr (.inl (ba_ext (h.trans e2.symm)))
    · exact .inr (.inr (.inl (ba_ext (h.trans e3.symm))))
    · exact .inr (.inr (.inr (ba_ext (h.trans e4.symm))))
  · rintro (rfl | rfl | rfl | rfl)
    · rw [e1]; rfl
    · rw [e2]; rfl
    · rw [e3]; rfl
    · rw [e4]; rfl

def kwD (raw : ByteArray) : ByteArray := kws.foldl (fun a k => if k.data.toList == raw.data.toList then k else a) kName
theorem kwF_D (raw : ByteArray) : kwF raw 7 = kwD raw := by
  unfold kwF kwD
  rw [show kws.take 7 = kws from rfl]
  congr 1
  funext a k
  rw [Go.ByteArray.toList_eq, Go.ByteArray.toList_eq]
theorem kwD_none (raw : ByteArray) (h : ∀ k ∈ kws, raw ≠ k) : ∀ l : List ByteArray, (∀ k ∈ l, k ∈ kws) → l.foldl (fun a k => if k.data.toList == raw.data.toList then k else a) kName = kName := by
  intro l
  induction l with
  | nil => intro _; rfl
  | cons k l ih =>
    intro hl
    have hk : (k.data.toList == raw.data.toList) = false := by
      rw [beq_eq_false_iff_ne]
      intro e
      exact h k (hl k (by simp)) (ByteArray.ext (Array.toList_inj.mp e.symm))
    rw [List.foldl_cons, hk]
    exact ih fun k hk => hl k (by simp [hk])
/-- A word's name: a keyword, itself; else a name. -/
theorem kw_what (raw : ByteArray) (h0 : raw.size ≠ 0) (hl : letterB (bt raw 0) = true) : kwF raw 7 = whatB raw := by
  by_cases hk : raw ∈ kws
  · rw [kwF_D, whatB_D]
    have hall : ∀ k ∈ kws, kwD k = whatD k := by decide
    exact hall raw hk
  · rw [kwF_D]
    have hn : kwD raw = kName := kwD_none raw (fun k hk' e => hk (e ▸ hk')) kws (fun _ h => h)
    have h1 : isTy raw.toList = false := by
      rw [Bool.eq_false_iff]
      intro e
      rcases (isTy_iff raw).mp e with rfl | rfl | rfl <;> exact hk (by simp [kws])
    have h2 : isKw raw.toList = false := by
      rw [Bool.eq_false_iff]
      intro e
      rcases (isKw_iff raw).mp e with rfl | rfl | rfl | rfl <;> exact hk (by simp [kws])
    have h3 : raw.toList.isEmpty = false := by
      rw [Go.ByteArray.toList_eq, Bool.eq_false_iff]
      intro e
      rw [List.isEmpty_iff] at e
      exact h0 (by show raw.data.size = 0; rw [← Array.length_toList, e]; rfl)
    rw [hn, whatB, kindB, h1, h2, h3, hl]; rfl
theorem num_what (raw : ByteArray) (h0 : raw.size ≠ 0) (hd : digitB (bt raw 0) = true) : whatB raw = kNumber := by
  have hl : letterB (bt raw 0) = false := by
    simp [digitB] at hd
    simp [letterB]; omega
  have h1 : isTy raw.toList = false := by
    rw [Bool.eq_false_iff]
    intro e
    rcases (isTy_iff raw).mp e with rfl | rfl | rfl <;> exact absurd hd (by decide)
  have h2 : isKw raw.toList = false := by
    rw [Bool.eq_false_iff]
    intro e
    rcases (isKw_iff raw).mp e with rfl | rfl | rfl | rfl <;> exact absurd hd (by decide)
  have h3 : raw.toList.isEmpty = false := by
    rw [Go.ByteArray.toList_eq, Bool.eq_false_iff]
    intro e
    rw [List.isEmpty_iff] at e
    exact h0 (by show raw.data.size = 0; rw [← Array.length_toList, e]; rfl)
  rw [whatB, kindB, h1, h2, h3, hl, hd]; rfl

theorem bt_ext (s : ByteArray) (p e : Nat) (h : p < e) (he : e ≤ s.size) : (s.extract p e).size = e - p ∧ bt (s.extract p e) 0 = bt s p := by
  have hz : (s.extract p e).size = e - p := by simp; omega
  refine ⟨hz, ?_⟩
  rw [bt_in (by omega), bt_in (by omega)]
  congr 1
  congr 1
  rw [ByteArray.getElem_extract]
  congr 1

theorem sgStep_stay (s : ByteArray) (p : Nat) (a : ByteArray × Nat) (ha : a.2 ≠ p) : ∀ l : List ByteArray, l.foldl (sgStep s p) a = a := by
  intro l
  induction l with
  | nil => rfl
  | cons k l ih => rw [List.foldl_cons, show sgStep s p a k = a from by simp [sgStep, ha], ih]
theorem sgF_find (s : ByteArray) (p : Nat) : ∀ l : List ByteArray, (∀ k ∈ l, k.size ≠ 0) →
    l.foldl (sgStep s p) (kNone, p) = match l.find? (beginsB s p) with | some k => (k, p + k.size) | none => (kNone, p) := by
  intro l
  induction l with
  | nil => intro _; rfl
  | cons k l ih =>
    intro hl
    rw [List.foldl_cons, List.find?_cons]
    cases hb : beginsB s p k with
    | true =>
      have hs : sgStep s p (kNone, p) k = (k, p + k.size) := by simp [sgStep, hb]
      rw [hs, sgStep_stay s p _ (by have := hl k (by simp); show p + k.size ≠ p; omega)]
    | false =>
      have hs : sgStep s p (kNone, p) k = (kNone, p) := by simp [sgStep, hb]
      rw [hs]
      exact ih fun k hk => hl k (by simp [hk])
theorem begins_two (s : ByteArray) (p : Nat) (a b : UInt8) : beginsB s p ⟨#[a, b]⟩ = (decide (p + 2 ≤ s.size) && (s.extract p (p + 2)).toList == [a, b]) := by
  have hl : (⟨#[a, b]⟩ : ByteArray).toList = [a, b] := by rw [Go.ByteArray.toList_eq]
  unfold beginsB
  rw [hl]; rfl
theorem ext1 (s : ByteArray) (k : Nat) (h : k + 1 ≤ s.size) : (s.extract k (k + 1)).toList = [s[k]] := by
  rw [Lib.extract_toList, show k + 1 - k = 1 from by omega, List.drop_eq_getElem_cons (by show k < s.size; omega)]
  rfl
theorem begins_one (s : ByteArray) (p : Nat) (a : UInt8) (h : p < s.size) : beginsB s p ⟨#[a]⟩ = (s[p] == a) := by
  have hl : (⟨#[a]⟩ : ByteArray).toList = [a] := by rw [Go.ByteArray.toList_eq]
  unfold beginsB
  rw [hl, show (⟨#[a]⟩ : ByteArray).size = 1 from rfl, ext1 s p h]
  simp [show p + 1 ≤ s.size from h]
theorem sgs_size : ∀ k ∈ sgs, k.size ≠ 0 := by decide
theorem sgs_what : ∀ k ∈ sgs, whatB k = k := by
  intro k hk
  rw [whatB_D]
  have hall : ∀ k ∈ sgs, whatD k = k := by decide
  exact hall k hk
def sgL : List ByteArray := [⟨#[61, 61]⟩, ⟨#[33, 61]⟩, ⟨#[38, 38]⟩, ⟨#[124, 124]⟩]
def sgS : List ByteArray := [⟨#[40]⟩, ⟨#[41]⟩, ⟨#[123]⟩, ⟨#[125]⟩, ⟨#[44]⟩, ⟨#[59]⟩, ⟨#[61]⟩, ⟨#[60]⟩, ⟨#[62]⟩, ⟨#[43]⟩, ⟨#[45]⟩, ⟨#[42]⟩, ⟨#[47]⟩, ⟨#[33]⟩]
theorem find_long (s : ByteArray) (p : Nat) : sgL.find? (beginsB s p) = if longB s p then some (s.extract p (p + 2)) else none := by
  unfold sgL longB isLong
  simp only [List.find?_cons, begins_two, List.find?_nil]
  by_cases h : p + 2 ≤ s.size
  · simp only [h, decide_true, Bool.true_and]
    by_cases h1 : (s.extract p (p + 2)).toList = [61, 61]
    · have e : s.extract p (p + 2) = ⟨#[61, 61]⟩ := ba_ext (h1.trans (by rw [Go.ByteArray.toList_eq]))
      rw [e, Go.ByteArray.toList_eq]; rfl
    by_cases h2 : (s.extract p (p + 2)).toList = [33, 61]
    · have e : s.extract p (p + 2) = ⟨#[33, 61]⟩ := ba_ext (h2.trans (by rw [Go.ByteArray.toList_eq]))
      rw [e, Go.ByteArray.toList_eq]; rfl
    by_cases h3 : (s.extract p (p + 2)).toList = [38, 38]
    · have e : s.extract p (p + 2) = ⟨#[38, 38]⟩ := ba_ext (h3.trans (by rw [Go.ByteArray.toList_eq]))
      rw [e, Go.ByteArray.toList_eq]; rfl
    by_cases h4 : (s.extract p (p + 2)).toList = [124, 124]
    · have e : s.extract p (p + 2) = ⟨#[124, 124]⟩ := ba_ext (h4.trans (by rw [Go.ByteArray.toList_eq]))
      rw [e, Go.ByteArray.toList_eq]; rfl
    have b1 : ((s.extract p (p + 2)).toList == [61, 61]) = false := by rw [beq_eq_false_iff_ne]; exact h1
    have b2 : ((s.extract p (p + 2)).toList == [33, 61]) = false := by rw [beq_eq_false_iff_ne]; exact h2
    have b3 : ((s.extract p (p + 2)).toList == [38, 38]) = false := by rw [beq_eq_false_iff_ne]; exact h3
    have b4 : ((s.extract p (p + 2)).toList == [124, 124]) = false := by rw [beq_eq_false_iff_ne]; exact h4
    rw [b1, b2, b3, b4]; rfl
  · simp [h]
set_option maxRecDepth 100000 in
theorem short_ix (c : UInt8) : shortB (c.toNat : Int) = [40, 41, 123, 125, 44, 59, 61, 60, 62, 43, 45, 42, 47, 33].contains c := by
  have : ∀ n : Fin 256, shortB (((UInt8.ofNat n.val).toNat : Nat) : Int) = [40, 41, 123, 125, 44, 59, 61, 60, 62, 43, 45, 42, 47, 33].contains (UInt8.ofNat n.val) := by decide
  have h := this ⟨c.toNat, c.toNat_lt⟩
  rwa [show UInt8.ofNat c.toNat = c from UInt8.ofNat_toNat] at h
theorem find_map (c : UInt8) (f : ByteArray → Bool) (hf : ∀ a : UInt8, f ⟨#[a]⟩ = (c == a)) : ∀ l : List UInt8, (l.map fun a => (⟨#[a]⟩ : ByteArray)).find? f = if l.contains c then some ⟨#[c]⟩ else none := by
  intro l
  induction l with
  | nil => rfl
  | cons a l ih =>
    rw [List.map_cons, List.find?_cons, hf a]
    by_cases h : c = a
    · subst h; simp
    · have : (c == a) = false := by rw [beq_eq_false_iff_ne]; exact h
      rw [this, ih, List.contains_cons, this]; rfl
theorem find_short (s : ByteArray) (p : Nat) (h : p < s.size) : sgS.find? (beginsB s p) = if shortB (bt s p) then some (s.extract p (p + 1)) else none := by
  have e1 : s.extract p (p + 1) = ⟨#[s[p]]⟩ := ba_ext (by rw [ext1 s p h, Go.ByteArray.toList_eq])
  rw [bt_in h, short_ix, e1]
  exact find_map s[p] (beginsB s p) (fun a => begins_one s p a h) [40, 41, 123, 125, 44, 59, 61, 60, 62, 43, 45, 42, 47, 33]
/-- The sign that stands at a place. -/
theorem sgF_eq (s : ByteArray) (p : Nat) (h : p < s.size) (hc : pairB s p 47 42 = false) (hl : letterB (bt s p) = false) (hd : digitB (bt s p) = false) :
    (p < tokenE s p ∧ sgF s p 18 = (whatB (s.extract p (tokenE s p)), tokenE s p) ∧ whatB (s.extract p (tokenE s p)) ≠ kNone ∧ whatB (s.extract p (tokenE s p)) ≠ kEnd) ∨ (¬ p < tokenE s p ∧ sgF s p 18 = (kNone, p)) := by
  have ht : tokenE s p = if longB s p then p + 2 else if shortB (bt s p) then p + 1 else p := by
    unfold tokenE signE
    rw [if_neg (by omega), hl, hd, hc]; rfl
  have hf : sgF s p 18 = match sgs.find? (beginsB s p) with | some k => (k, p + k.size) | none => (kNone, p) := by
    unfold sgF
    rw [show sgs.take 18 = sgs from rfl]
    exact sgF_find s p sgs sgs_size
  have hsp : sgs.find? (beginsB s p) = (sgL.find? (beginsB s p)).or (sgS.find? (beginsB s p)) := by
    rw [show sgs = sgL ++ sgS from rfl, List.find?_append]
  have hm : ∀ k, sgs.find? (beginsB s p) = some k → whatB k = k ∧ k ≠ kNone ∧ k ≠ kEnd := fun k hk => by
    have hin := List.mem_of_find?_eq_some hk
    refine ⟨sgs_what k hin, ?_⟩
    have hall : ∀ k ∈ sgs, k ≠ kNone ∧ k ≠ kEnd := by decide
    exact hall k hin
  rw [find_long, find_short s p h] at hsp
  cases hlo : longB s p with
  | true =>
    rw [hlo] at ht hsp
    have ht : tokenE s p = p + 2 := ht
    have hsp : sgs.find? (beginsB s p) = some (s.extract p (p + 2)) := hsp
    have hz : p + 2 ≤ s.size := by
      have := hlo
      simp only [longB, Bool.and_eq_true, decide_eq_true_eq] at this
      exact this.1
    left
    obtain ⟨m1, m2, m3⟩ := hm _ hsp
    rw [hsp] at hf
    rw [ht, m1]
    refine ⟨by omega, ?_, m2, m3⟩
    rw [hf]
    show (s.extract p (p + 2), p + (s.extract p (p + 2)).size) = _
    rw [(bt_ext s p (p + 2) (by omega) hz).1]
    congr 1; omega
  | false =>
    rw [hlo] at ht hsp
    cases hsh : shortB (bt s p) with
    | true =>
      rw [hsh] at ht hsp
      have ht : tokenE s p = p + 1 := ht
      have hsp : sgs.find? (beginsB s p) = some (s.extract p (p + 1)) := hsp
      left
      obtain ⟨m1, m2, m3⟩ := hm _ hsp
      rw [hsp] at hf
      rw [ht, m1]
      refine ⟨by omega, ?_, m2, m3⟩
      rw [hf]
      show (s.extract p (p + 1), p + (s.extract p (p + 1)).size) = _
      rw [(bt_ext s p (p + 1) (by omega) h).1]
      congr 1; omega
    | false =>
      rw [hsh] at ht hsp
      have ht : tokenE s p = p := ht
      have hsp : sgs.find? (beginsB s p) = none := hsp
      right
      rw [hsp] at hf
      exact ⟨by omega, hf⟩
theorem kw_what_ne (raw : ByteArray) (h0 : raw.size ≠ 0) (hl : letterB (bt raw 0) = true) : whatB raw ≠ kEnd ∧ whatB raw ≠ kNone := by
  rw [← kw_what raw h0 hl]
  by_cases hk : raw ∈ kws
  · rw [kwF_D]
    have hall : ∀ k ∈ kws, kwD k ≠ kEnd ∧ kwD k ≠ kNone := by decide
    exact hall raw hk
  · rw [kwF_D]
    have hn : kwD raw = kName := kwD_none raw (fun k hk' e => hk (e ▸ hk')) kws (fun _ h => h)
    rw [hn]; decide

end Go.Proofs.YtdaneedflpfeaaaDoor
