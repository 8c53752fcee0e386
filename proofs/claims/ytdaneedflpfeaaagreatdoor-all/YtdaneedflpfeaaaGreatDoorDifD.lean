import Derived.Test.YtdaneedflpfeaaaGreatDoorDifC
import Derived.Lib.ItoaNum
import Derived.Test.YtdaneedflpfeaaaGreatDoorOut
import Derived.Test.YtdaneedflpfeaaaGreatDoorPatV
namespace Go.Proofs.YtdaneedflpfeaaaGreatDoor
set_option maxRecDepth 100000
open Go.RowKit

/-! ## A step's line, and a script of lines -/
theorem esc_facts : ∀ n : Fin 256, (plainB (n.val : Int) = true → 33 ≤ n.val ∧ n.val ≤ 126) ∧ (plainB (n.val : Int) = false → (0 ≤ hexV ((hexD (n.val / 16)).toNat : Int) ∧ 0 ≤ hexV ((hexD (n.val % 16)).toNat : Int)) ∧ hexV ((hexD (n.val / 16)).toNat : Int) * 16 + hexV ((hexD (n.val % 16)).toNat : Int) = n.val ∧ 48 ≤ (hexD (n.val / 16)).toNat ∧ 48 ≤ (hexD (n.val % 16)).toNat) := by decide +kernel
theorem unB_escD (c : UInt8) (r : List UInt8) : unB (escB c ++ r) = (c, (escB c).length) ∧ (escB c ++ r).drop (escB c).length = r := by
  refine ⟨?_, List.drop_left⟩
  have hf := esc_facts ⟨c.toNat, UInt8.toNat_lt c⟩
  unfold escB
  by_cases hp : plainB (c.toNat : Int) = true
  · rw [if_pos hp]; exact unB_plain r hp
  · have hp' : plainB (c.toNat : Int) = false := by simpa using hp
    obtain ⟨h1, h2, _⟩ := hf.2 hp'
    simp only at h1 h2
    rw [if_neg hp]
    have := unB_full (a := 92) (b := 120) (h := hexD (c.toNat / 16)) (o := hexD (c.toNat % 16)) r (by decide)
    rw [if_pos ⟨⟨rfl, rfl⟩, h1, by rw [h2]; exact hp'⟩, h2] at this
    have e : UInt8.ofNat ((c.toNat : Int)).toNat = c := by simp
    rw [e] at this
    exact this
theorem unL_esc (l : List UInt8) : unL (escL l) = some l := by
  induction l with
  | nil => exact unL_nil
  | cons c l ih =>
    have e : escL (c :: l) = escB c ++ escL l := by simp [escL]
    obtain ⟨h1, h2⟩ := unB_escD c (escL l)
    have hl : (escB c).length ≠ 0 := by unfold escB; split <;> simp
    rw [e, unL_yes (by rw [h1]; exact hl), h1]
    simp only
    rw [h2, ih]; rfl
theorem escB_mem {c x : UInt8} (h : x ∈ escB c) : x ≠ 32 ∧ x ≠ 10 := by
  have hf := esc_facts ⟨c.toNat, UInt8.toNat_lt c⟩
  have key : ∀ y : UInt8, 33 ≤ y.toNat → y ≠ 32 ∧ y ≠ 10 := fun y hy => ⟨fun e => by subst e; revert hy; decide, fun e => by subst e; revert hy; decide⟩
  unfold escB at h
  by_cases hp : plainB (c.toNat : Int) = true
  · rw [if_pos hp] at h
    simp at h; subst h
    exact key _ (hf.1 hp).1
  · have hp' : plainB (c.toNat : Int) = false := by simpa using hp
    obtain ⟨_, _, h3, h4⟩ := hf.2 hp'
    simp only at h3 h4
    rw [if_neg hp] at h
    simp only [List.mem_cons, List.not_mem_nil, or_false] at h
    rcases h with rfl | rfl | rfl | rfl
    · decide
    · decide
    · exact key _ (by omega)
    · exact key _ (by omega)
/-- A label that a line can hold. -/
def LabOk (b : Bool) (t : ByteArray) : Prop := b = true → ∀ x ∈ t.data.toList, x ≠ 32 ∧ x ≠ 10
theorem label_mem {n : Nd} (h : LabOk n.inner n.text) : ∀ x ∈ labelL n, x ≠ 32 ∧ x ≠ 10 := by
  intro x hx
  unfold labelL at hx
  cases hb : n.inner with
  | true =>
    rw [hb, if_pos rfl] at hx
    rcases List.mem_cons.1 hx with rfl | hx
    · decide
    · exact h hb x hx
  | false =>
    rw [hb, if_neg (by decide)] at hx
    rcases List.mem_cons.1 hx with rfl | hx
    · decide
    · unfold escL at hx
      obtain ⟨c, _, hc⟩ := List.mem_flatMap.1 hx
      exact escB_mem hc
theorem label_read (n : Nd) : labV (labelL n) = some (n.inner, n.text.data.toList) := by
  unfold labelL
  cases hb : n.inner with
  | true => rw [if_pos rfl, labV, if_pos rfl]
  | false => rw [if_neg (by decide), labV, if_neg (by decide), if_pos rfl, unL_esc]; rfl
theorem two_digits : ∀ i : Fin 100, ¬ i.val < 10 → numV [UInt8.ofNat (48 + i.val / 10), UInt8.ofNat (48 + i.val % 10)] = some i.val ∧ (∀ x ∈ [UInt8.ofNat (48 + i.val / 10), UInt8.ofNat (48 + i.val % 10)], x ≠ 32 ∧ x ≠ 10) := by decide +kernel
theorem one_digit : ∀ i : Fin 10, numV [UInt8.ofNat (48 + i.val)] = some i.val ∧ (∀ x ∈ [UInt8.ofNat (48 + i.val)], x ≠ 32 ∧ x ≠ 10) := by decide +kernel
theorem dec_read {k : Nat} (h : k < 100) : numV (Lib.decDigits k) = some k ∧ (∀ x ∈ Lib.decDigits k, x ≠ 32 ∧ x ≠ 10) ∧ (Lib.decDigits k).length ≤ 2 := by
  by_cases h1 : k < 10
  · rw [Lib.decDigits_one h1]
    exact ⟨(one_digit ⟨k, h1⟩).1, (one_digit ⟨k, h1⟩).2, by simp⟩
  · rw [Lib.decDigits_two h1 h]
    exact ⟨(two_digits ⟨k, h⟩ h1).1, (two_digits ⟨k, h⟩ h1).2, by simp⟩
def lineT : Stp → List UInt8
  | .ren k b t => 114 :: 32 :: (Lib.decDigits k ++ 32 :: labelL ⟨b, t, 0⟩)
  | .del k => 100 :: 32 :: Lib.decDigits k
  | .ins p i n b t => 105 :: 32 :: (Lib.decDigits p ++ 32 :: (Lib.decDigits i ++ 32 :: (Lib.decDigits n ++ 32 :: labelL ⟨b, t, 0⟩)))
def Stp.good : Stp → Prop
  | .ren k b t => k < 100 ∧ LabOk b t
  | .del k => k < 100
  | .ins p i n b t => p < 100 ∧ i < 100 ∧ n < 100 ∧ LabOk b t
theorem line_read {st : Stp} (h : st.good) : stepW (splitL 32 (lineT st)) = some st ∧ ∀ x ∈ lineT st, x ≠ 10 := by
  cases st with
  | ren k b t =>
    obtain ⟨h1, h2⟩ := h
    obtain ⟨a1, a2, _⟩ := dec_read h1
    have l1 := label_mem (n := ⟨b, t, 0⟩) h2
    constructor
    · show stepW (splitL 32 ([114] ++ 32 :: (Lib.decDigits k ++ 32 :: labelL ⟨b, t, 0⟩))) = _
      rw [splitL_at [114] _ (by decide), splitL_at _ _ (fun x hx => (a2 x hx).1), splitL_none _ (fun x hx => (l1 x hx).1)]
      simp only [stepW, if_true, a1, label_read]
      rfl
    · intro x hx
      simp only [lineT, List.mem_cons, List.mem_append] at hx
      rcases hx with rfl | rfl | hx | rfl | hx
      · decide
      · decide
      · exact (a2 x hx).2
      · decide
      · exact (l1 x hx).2
  | del k =>
    obtain ⟨a1, a2, _⟩ := dec_read (show k < 100 from h)
    constructor
    · show stepW (splitL 32 ([100] ++ 32 :: Lib.decDigits k)) = _
      rw [splitL_at [100] _ (by decide), splitL_none _ (fun x hx => (a2 x hx).1)]
      simp only [stepW, if_true, a1]
      rfl
    · intro x hx
      simp only [lineT, List.mem_cons] at hx
      rcases hx with rfl | rfl | hx
      · decide
      · decide
      · exact (a2 x hx).2
  | ins p i n b t =>
    obtain ⟨h1, h2, h3, h4⟩ := h
    obtain ⟨a1, a2, _⟩ := dec_read h1
    obtain ⟨b1, b2, _⟩ := dec_read h2
    obtain ⟨c1, c2, _⟩ := dec_read h3
    have l1 := label_mem (n := ⟨b, t, 0⟩) h4
    constructor
    · show stepW (splitL 32 ([105] ++ 32 :: (Lib.decDigits p ++ 32 :: (Lib.decDigits i ++ 32 :: (Lib.decDigits n ++ 32 :: labelL ⟨b, t, 0⟩))))) = _
      rw [splitL_at [105] _ (by decide), splitL_at _ _ (fun x hx => (a2 x hx).1), splitL_at _ _ (fun x hx => (b2 x hx).1), splitL_at _ _ (fun x hx => (c2 x hx).1), splitL_none _ (fun x hx => (l1 x hx).1)]
      simp only [stepW, if_true, a1, b1, c1, label_read]
      rfl
    · intro x hx
      simp only [lineT, List.mem_cons, List.mem_append] at hx
      rcases hx with rfl | rfl | hx | rfl | hx | rfl | hx | rfl | hx
      · decide
      · decide
      · exact (a2 x hx).2
      · decide
      · exact (b2 x hx).2
      · decide
      · exact (c2 x hx).2
      · decide
      · exact (l1 x hx).2
def scriptL (ss : List Stp) : List UInt8 := ss.flatMap fun st => lineT st ++ [10]
theorem scriptL_app (a b : List Stp) : scriptL (a ++ b) = scriptL a ++ scriptL b := by simp [scriptL]
theorem script_count {ss : List Stp} (h : ∀ st ∈ ss, st.good) : (scriptL ss).count 10 = ss.length := by
  induction ss with
  | nil => rfl
  | cons st ss ih =>
    have e : scriptL (st :: ss) = lineT st ++ 10 :: scriptL ss := by simp [scriptL]
    have h0 : (lineT st).count 10 = 0 := List.count_eq_zero.2 fun q => (line_read (h st (by simp))).2 10 q rfl
    rw [e, List.count_append, List.count_cons_self, h0, ih (fun x hx => h x (by simp [hx]))]
    simp
theorem runE_line (d : ByteArray) : ∀ (n a : Nat) (l r : List UInt8), l.length ≤ n → d.data.toList.drop a = l ++ 10 :: r → (∀ x ∈ l, x ≠ 10) → runE noLf d a = a + l.length := by
  intro n
  induction n with
  | zero =>
    intro a l r hn e hl
    have : l = [] := List.eq_nil_of_length_eq_zero (by omega)
    subst this
    have ha : a < d.size := by
      rcases Nat.lt_or_ge a d.size with q | q
      · exact q
      · rw [List.drop_of_length_le (show d.data.toList.length ≤ a from q)] at e; cases e
    rw [drop_at ha] at e
    simp only [List.nil_append, List.cons.injEq] at e
    rw [runE, dif_neg]
    · rfl
    · rintro ⟨_, h2⟩
      rw [bt_in ha, e.1] at h2
      exact absurd h2 (by decide)
  | succ n ih =>
    intro a l r hn e hl
    cases l with
    | nil => exact ih a [] r (by simp) e hl
    | cons x l =>
      have ha : a < d.size := by
        rcases Nat.lt_or_ge a d.size with q | q
        · exact q
        · rw [List.drop_of_length_le (show d.data.toList.length ≤ a from q)] at e; cases e
      rw [drop_at ha] at e
      simp only [List.cons_append, List.cons.injEq] at e
      rw [runE, dif_pos ⟨ha, by
        rw [bt_in ha, e.1]
        simp only [noLf, bne_iff_ne, ne_eq]
        intro q
        exact hl x (by simp) (UInt8.toNat_inj.1 (by show _ = 10; omega))⟩, ih (a + 1) l r (by simp at hn; omega) e.2 (fun y hy => hl y (by simp [hy]))]
      simp only [List.length_cons]; omega
theorem scr_run (d : ByteArray) : ∀ (ss : List Stp) (l m : List Nd) (a line : Nat), (∀ st ∈ ss, st.good) → d.data.toList.drop a = scriptL ss → runS l ss = some m → scrN d l a line = .ok m := by
  intro ss
  induction ss with
  | nil =>
    intro l m a line _ e hr
    have ha : d.size ≤ a := by
      have := congrArg List.length e
      rw [List.length_drop] at this
      have e2 : d.data.toList.length = d.size := rfl
      simp [scriptL] at this
      omega
    rw [scrN, dif_neg (by omega)]
    simp only [runS, Option.some.injEq] at hr
    rw [hr]
  | cons st ss ih =>
    intro l m a line hg e hr
    have e1 : scriptL (st :: ss) = lineT st ++ 10 :: scriptL ss := by simp [scriptL]
    rw [e1] at e
    obtain ⟨r1, r2⟩ := line_read (hg st (by simp))
    have hz := runE_line d _ a (lineT st) _ (Nat.le_refl _) e r2
    have hlen := congrArg List.length e
    rw [List.length_drop, List.length_append, List.length_cons] at hlen
    have e2 : d.data.toList.length = d.size := rfl
    rw [scrN, dif_pos (by omega), dif_pos (by omega)]
    have hline : lineL d a = lineT st := by
      unfold lineL
      rw [hz, e, Nat.add_sub_cancel_left, List.take_left]
    rw [hline, r1]
    rw [runS] at hr
    cases hs : stepN l st with
    | none => rw [hs] at hr; cases hr
    | some k =>
      rw [hs, Option.bind_some] at hr
      simp only
      rw [hs]
      refine ih k m _ _ (fun x hx => hg x (by simp [hx])) ?_ hr
      rw [hz, ← List.drop_drop, ← List.drop_drop, e, List.drop_left]
      rfl

end Go.Proofs.YtdaneedflpfeaaaGreatDoor

namespace Go.Proofs.YtdaneedflpfeaaaGreatDoor
set_option maxRecDepth 100000
open Go.RowKit

/-! ## The script's lines are lines, and few bytes -/
theorem upN_le (M : List Nd) (mt : Nat → Nat) (a e : Nat) : upN M mt a e ≤ e - a := by
  induction a using upN.induct M mt e with
  | case1 a h h0 ih => rw [upN, dif_pos h, if_pos h0]; omega
  | case2 a h h0 h2 ih => rw [upN, dif_pos h, if_neg h0, dif_pos h2]; omega
  | case3 a h h0 h2 => rw [upN, dif_pos h, if_neg h0, dif_neg h2]; omega
  | case4 a h => rw [upN, dif_neg h]; omega
theorem good_chg {L M : List Nd} {mf : Nat → Nat} (hM : ∀ x ∈ M, LabOk x.inner x.text) : ∀ n, n < 100 → ∀ st ∈ chg L (lbF M mf) n, st.good := by
  intro n
  induction n with
  | zero => intro _ st h; simp [chg] at h
  | succ n ih =>
    intro hn st h
    rw [chg] at h
    rcases List.mem_append.1 h with h | h
    · unfold stF at h
      cases hk : lbF M mf (n + 1) with
      | none => rw [hk] at h; simp at h; subst h; exact hn
      | some y =>
        rw [hk] at h
        simp only at h
        split at h
        · simp at h
        · simp at h; subst h
          unfold lbF at hk
          split at hk
          · cases hk
          · obtain ⟨z, hz, rfl⟩ := Option.map_eq_some_iff.1 hk
            exact ⟨hn, hM z (List.mem_of_getElem? hz)⟩
    · exact ih (by omega) st h
theorem good_adds {M : List Nd} {mt : Nat → Nat} (hl : M.length < 100) (hM : ∀ x ∈ M, LabOk x.inner x.text) : ∀ n l, l + n = M.length → ∀ st ∈ adds M mt l n, st.good := by
  intro n
  induction n with
  | zero => intro l _ st h; simp [adds] at h
  | succ n ih =>
    intro l hn st h
    rw [adds] at h
    rcases List.mem_append.1 h with h | h
    · unfold stT at h
      split at h
      · rw [List.getElem?_eq_getElem (show l < M.length by omega)] at h
        simp at h; subst h
        have h1 := (parG_spec M (dpt M l) l (by omega)).1
        have h2 := List.countP_le_length (p := fun y : Nd => decide (y.depth = (M[l]).depth)) (l := Dist.sg M (parN M l + 1) l)
        rw [Dist.sg_len _ _ _ (by omega)] at h2
        have h3 := upN_le M mt (l + 1) (subE M l)
        have h4 := subE_le (l := M) (k := l) (by omega)
        exact ⟨by show parN M l < 100; unfold parN; omega, by show cntD _ _ < 100; unfold cntD; omega, by omega, hM _ (List.getElem_mem _)⟩
      · simp at h
    · exact ih (l + 1) (by omega) st h
def labLen (M : List Nd) (j : Nat) : Nat := match M[j]? with | some x => (labelL x).length | none => 0
def wt (ss : List Stp) : Nat := (scriptL ss).length
theorem wt_app (a b : List Stp) : wt (a ++ b) = wt a + wt b := by unfold wt; rw [scriptL_app, List.length_append]
theorem wt_chg (L : List Nd) (lb : Nat → Option (Bool × ByteArray)) (n : Nat) : wt (chg L lb n) = sumN (fun k => wt (stF L lb k)) 1 n := by
  induction n with
  | zero => rfl
  | succ n ih => rw [chg, wt_app, ih, sumN_app, show 1 + n = n + 1 by omega]; simp only [sumN]; omega
theorem wt_adds (M : List Nd) (mt : Nat → Nat) (n : Nat) : ∀ l, wt (adds M mt l n) = sumN (fun k => wt (stT M mt k)) l n := by
  induction n with
  | zero => intro l; rfl
  | succ n ih => intro l; rw [adds, wt_app, ih, sumN]
theorem wt_one (st : Stp) : wt [st] = (lineT st).length + 1 := by simp [wt, scriptL]
theorem label_d (b : Bool) (t : ByteArray) (d d' : Int) : labelL ⟨b, t, d⟩ = labelL ⟨b, t, d'⟩ := rfl
theorem wt_stT {M : List Nd} (hl : M.length < 100) (mt : Nat → Nat) (j : Nat) (hj : j < M.length) : wt (stT M mt j) ≤ 12 + labLen M j := by
  unfold stT labLen
  rw [List.getElem?_eq_getElem hj]
  split
  · simp only
    rw [wt_one]
    have h1 := (parG_spec M (dpt M j) j hj).1
    have h2 := List.countP_le_length (p := fun y : Nd => decide (y.depth = (M[j]).depth)) (l := Dist.sg M (parN M j + 1) j)
    rw [Dist.sg_len _ _ _ (by omega)] at h2
    have h3 := upN_le M mt (j + 1) (subE M j)
    have h4 := subE_le (l := M) (k := j) (by omega)
    have a1 := (dec_read (show parN M j < 100 by unfold parN; omega)).2.2
    have a2 := (dec_read (show cntD (M[j]).depth (Dist.sg M (parN M j + 1) j) < 100 by unfold cntD; omega)).2.2
    have a3 := (dec_read (show upN M mt (j + 1) (subE M j) < 100 by omega)).2.2
    simp only [lineT, List.length_cons, List.length_append]
    have : labelL ⟨(M[j]).inner, (M[j]).text, 0⟩ = labelL M[j] := rfl
    rw [this]
    omega
  · show wt [] ≤ _; simp [wt, scriptL]
theorem pm_size {L M : List Nd} (hL : L.length < 100) (hM : M.length < 100) {mf mt : Nat → Nat} {a b a' b' n : Nat} (h : PM L M mf mt a b a' b' n) :
    sumN (fun k => wt (stF L (lbF M mf) k)) a (b - a) + sumN (fun k => wt (stT M mt k)) a' (b' - a') ≤ 5 * (b - a) + sumN (fun j => 12 + labLen M j) a' (b' - a') := by
  have f0 : ∀ k, k < 100 → mf k = 0 → wt (stF L (lbF M mf) k) ≤ 5 := fun k hk h0 => by
    have : stF L (lbF M mf) k = [.del k] := by rw [stF, lbF, if_pos h0]
    rw [this, wt_one]
    have := (dec_read hk).2.2
    simp only [lineT, List.length_cons]; omega
  have many : ∀ m i, i + m ≤ 100 → (∀ k, i ≤ k → k < i + m → mf k = 0) → sumN (fun k => wt (stF L (lbF M mf) k)) i m ≤ 5 * m := by
    intro m
    induction m with
    | zero => intro i _ _; simp [sumN]
    | succ m ih =>
      intro i hi hz
      have := ih (i + 1) (by omega) (fun k h1 h2 => hz k (by omega) (by omega))
      have := f0 i (by omega) (hz i (Nat.le_refl _) (by omega))
      simp only [sumN]; omega
  have many' : ∀ m i, i + m ≤ M.length → sumN (fun k => wt (stT M mt k)) i m ≤ sumN (fun j => 12 + labLen M j) i m := by
    intro m
    induction m with
    | zero => intro i _; simp [sumN]
    | succ m ih =>
      intro i hi
      have := ih (i + 1) (by omega)
      have := wt_stT hM mt i (by omega)
      simp only [sumN]; omega
  induction h with
  | @come b a' b' hz h1 h2 h3 =>
    have := many' (b' - a') a' (by omega)
    simp only [Nat.sub_self, sumN]; omega
  | @go a b b' hz h1 h2 h3 =>
    have := many (b - a) a (by omega) (fun k k1 k2 => hz k k1 (by omega))
    simp only [Nat.sub_self, sumN]; omega
  | @del a b a' b' n h1 h2 h3 ih =>
    have := h3.bounds
    have := f0 a (by omega) h2
    rw [show b - a = (b - (a + 1)) + 1 by omega]
    simp only [sumN]
    omega
  | @ins a b a' b' n h1 h2 h3 ih =>
    have := h3.bounds
    have := wt_stT hM mt a' (by omega)
    rw [show b' - a' = (b' - (a' + 1)) + 1 by omega]
    simp only [sumN]
    omega
  | @mat a b a' b' n m x y h0 h0' hx hy e1 e2 s1 s2 p1 p2 ih1 ih2 =>
    have b1 := p1.bounds
    have b2 := p2.bounds
    have hf : wt (stF L (lbF M mf) a) ≤ 6 + labLen M a' := by
      have hb : lbF M mf a = some (lab y) := by rw [lbF, if_neg (by omega), e1, hy]; rfl
      rw [stF, hb, labLen, hy]
      simp only
      split
      · show wt [] ≤ _; simp [wt, scriptL]
      · rw [wt_one]
        have := (dec_read (show a < 100 by omega)).2.2
        simp only [lineT, List.length_cons, List.length_append]
        have : labelL ⟨(lab y).1, (lab y).2, 0⟩ = labelL y := rfl
        rw [this]
        omega
    have ht : wt (stT M mt a') = 0 := by rw [stT, if_neg (by omega)]; rfl
    rw [show b - a = ((subE L a - (a + 1)) + (b - subE L a)) + 1 by omega, show b' - a' = ((subE M a' - (a' + 1)) + (b' - subE M a')) + 1 by omega]
    simp only [sumN, sumN_app, show a + 1 + (subE L a - (a + 1)) = subE L a by omega, show a' + 1 + (subE M a' - (a' + 1)) = subE M a' by omega]
    omega
theorem script_size {L M : List Nd} (hL : L.length ≤ 80) (hM : M.length ≤ 80) {mf mt : Nat → Nat} {n : Nat} (h : PM L M mf mt 1 L.length 1 M.length n) (hlab : sumN (labLen M) 1 (M.length - 1) ≤ 5000) :
    (scriptL (chg L (lbF M mf) (L.length - 1) ++ adds M mt 1 (M.length - 1))).length ≤ 9000 := by
  have h1 := pm_size (by omega) (by omega) h
  have e : ∀ m i, sumN (fun j => 12 + labLen M j) i m = 12 * m + sumN (labLen M) i m := by
    intro m
    induction m with
    | zero => intro i; simp [sumN]
    | succ m ih => intro i; simp only [sumN, ih]; omega
  have h2 := wt_app (chg L (lbF M mf) (L.length - 1)) (adds M mt 1 (M.length - 1))
  rw [wt_chg, wt_adds] at h2
  rw [e] at h1
  show wt _ ≤ _
  omega

end Go.Proofs.YtdaneedflpfeaaaGreatDoor

namespace Go.Proofs.YtdaneedflpfeaaaGreatDoor
set_option maxRecDepth 100000
open Go.RowKit

/-! ## A program's nodes -/
theorem kinds_lab (g : G) : ∀ kd ∈ kindsOf (body g), kd.size ≤ 8 ∧ ∀ c ∈ kd.data.toList, c ≠ 32 ∧ c ≠ 10 := by
  have h : (kindsOf (body g)).all (fun kd => decide (kd.size ≤ 8) && kd.data.toList.all fun c => decide (c ≠ 32 ∧ c ≠ 10)) = true := by cases g <;> decide
  intro kd hk
  have := List.all_eq_true.1 h kd hk
  rw [Bool.and_eq_true] at this
  exact ⟨of_decide_eq_true this.1, fun c hc => of_decide_eq_true (List.all_eq_true.1 this.2 c hc)⟩
structure PrgN (s : ByteArray) (M : List Nd) : Prop where
  prog : Prog M
  lab : ∀ x ∈ M, LabOk x.inner x.text
  root : M[0]? = some ⟨true, kProgram, 0⟩
  len : M.length ≤ 80
  labs : sumN (labLen M) 1 (M.length - 1) ≤ 5000
  text : mk (leafB M) = s
theorem ch_row {l : List Rw} : ∀ (o : Nat) (p : Int), RC o l → (o : Int) ≤ p → CH p (l.map (toNd 1)) := by
  induction l with
  | nil => intro o p _ _; trivial
  | cons r l ih =>
    intro o p h hp
    refine ⟨by have := h.1; show 1 + (r.deep : Int) ≤ p + 1; omega, ih _ _ h.2 ?_⟩
    show ((if r.inner then r.deep + 1 else r.deep : Nat) : Int) ≤ 1 + (r.deep : Int)
    split <;> omega
theorem in_row {l : List Rw} : ∀ (o : Nat), RC o l → ∀ i x y, (l.map (toNd 1))[i]? = some x → (l.map (toNd 1))[i + 1]? = some y → x.depth < y.depth → x.inner = true := by
  induction l with
  | nil => intro o _ i x y h; simp at h
  | cons r l ih =>
    intro o h i x y hx hy hd
    cases i with
    | succ i => exact ih _ h.2 i x y (by simpa using hx) (by simpa using hy) hd
    | zero =>
      cases l with
      | nil => simp at hy
      | cons r2 l =>
        simp at hx hy
        subst hx hy
        have := h.2.1
        cases hr : r.inner with
        | true => exact hr
        | false =>
          rw [hr] at this
          simp at this
          simp only [toNd] at hd
          omega
theorem leafB_node (l : List Rw) (k : Int) : leafB (l.map (toNd k)) = cat (leafT l) := by
  induction l with
  | nil => rfl
  | cons x l ih =>
    simp only [leafB, cat, leafT, List.map_cons, List.flatMap_cons, List.filterMap_cons] at *
    rw [ih]
    cases hx : x.inner <;> simp [toNd, hx]
theorem labs_le (l : List Nd) (hk : ∀ x ∈ l, x.inner = true → x.text.size ≤ 8) : (l.map fun x => (labelL x).length).sum ≤ 9 * l.length + 4 * (leafB l).length := by
  induction l with
  | nil => simp [leafB]
  | cons x l ih =>
    have := ih (fun y hy => hk y (by simp [hy]))
    have hx : (labelL x).length ≤ 9 + 4 * (if x.inner then [] else x.text.data.toList).length := by
      unfold labelL
      cases hb : x.inner with
      | true => have := hk x (by simp) hb; simp only [if_true, List.length_cons]; have e : x.text.data.toList.length = x.text.size := rfl; omega
      | false => have := escL_len x.text.data.toList; simp only [if_false, List.length_cons, Bool.false_eq_true]; omega
    simp only [List.map_cons, List.sum_cons, List.length_cons, leafB, List.flatMap_cons, List.length_append] at *
    omega
theorem sumN_list (M : List Nd) (f : Nd → Nat) (g : Nat → Nat) : ∀ (n i : Nat), i + n = M.length → (∀ j x, M[j]? = some x → g j = f x) → sumN g i n = ((M.drop i).map f).sum := by
  intro n
  induction n with
  | zero => intro i h _; rw [List.drop_eq_nil_of_le (by omega)]; rfl
  | succ n ih =>
    intro i h hg
    have hi : i < M.length := by omega
    rw [sumN, ih (i + 1) (by omega) hg, List.drop_eq_getElem_cons hi, List.map_cons, List.sum_cons, hg i _ (List.getElem?_eq_getElem hi)]
theorem prgN_of {s : ByteArray} {M : List Nd} (h : outT s = .ok M) : PrgN s M := by
  obtain ⟨l, rfl, rc, h1, h79, _⟩ := ok_rows h
  obtain ⟨l0, j, hs, hp, e, _, _⟩ := outT_mod h
  have hq := propG (scanL s 0) (fun x => x.inner = true → x.text.size ≤ 8 ∧ ∀ c ∈ x.text.data.toList, c ≠ 32 ∧ c ≠ 10) (fun x h => h) (fun t ht h => by cases h) (fun g kd hk _ => kinds_lab g kd hk) _ _ _ _ _ hp
  have hin : ∀ x ∈ (nodeR kProgram l).map (toNd 0), x.inner = true → x.text.size ≤ 8 ∧ ∀ c ∈ x.text.data.toList, c ≠ 32 ∧ c ≠ 10 := by
    rw [e]
    intro x hx
    obtain ⟨y, hy, rfl⟩ := List.mem_map.1 hx
    exact hq y hy
  have hleaf : leafB ((nodeR kProgram l).map (toNd 0)) = s.data.toList := by rw [e, leafB_node]; exact parse_cat hp
  have en : (nodeR kProgram l).map (toNd 0) = ⟨true, kProgram, 0⟩ :: l.map (toNd 1) := map_node _ _ _
  have hlen : ((nodeR kProgram l).map (toNd 0)).length = l.length + 1 := by rw [en]; simp
  refine ⟨⟨by omega, ?_, ?_, ?_, ?_⟩, fun x hx hb => (hin x hx hb).2, by rw [en]; rfl, by omega, ?_, by rw [hleaf]; rfl⟩
  · rw [en]; intro x hx; simp at hx; subst hx; rfl
  · rw [en]; intro x hx
    simp only [List.drop_succ_cons, List.drop_zero] at hx
    obtain ⟨y, hy, rfl⟩ := List.mem_map.1 hx
    show 1 ≤ 1 + (y.deep : Int); omega
  · rw [en]
    exact ⟨by show (0 : Int) ≤ -1 + 1; omega, ch_row 0 0 rc (Int.le_refl _)⟩
  · rw [en]
    intro i x y hx hy hd
    cases i with
    | zero => simp at hx; subst hx; rfl
    | succ i => exact in_row 0 rc i x y (by simpa using hx) (by simpa using hy) hd
  · rw [sumN_list ((nodeR kProgram l).map (toNd 0)) (fun x => (labelL x).length) _ _ 1 (by omega) (fun j x hx => by rw [labLen, hx])]
    have h2 := labs_le (((nodeR kProgram l).map (toNd 0)).drop 1) (fun x hx hb => (hin x (List.mem_of_mem_drop hx) hb).1)
    have h3 : (leafB (((nodeR kProgram l).map (toNd 0)).drop 1)).length ≤ s.size := by
      have e2 : leafB ((nodeR kProgram l).map (toNd 0)) = leafB (((nodeR kProgram l).map (toNd 0)).drop 1) := by rw [en]; rfl
      rw [← e2, hleaf]; exact Nat.le_refl _
    rw [List.length_drop] at h2
    omega
/-- The script that Diff writes. -/
def DiffS (L M : List Nd) (d : ByteArray) : Prop := ∃ mf mt, PM L M mf mt 1 L.length 1 M.length (dSn L M 1 L.length 1 M.length) ∧ d = mk (scriptL (chg L (lbF M mf) (L.length - 1) ++ adds M mt 1 (M.length - 1)))
theorem root_sub {s : ByteArray} {M : List Nd} (h : PrgN s M) : subE M 0 = M.length := by
  have hp := h.prog.pos
  have hs := subE_le hp
  rcases Nat.lt_or_ge (subE M 0) M.length with q | q
  · have hy : M[subE M 0]? = some M[subE M 0] := List.getElem?_eq_getElem q
    have := (subE_sub hp).stop _ _ h.root hy
    have := h.prog.ge M[subE M 0] (by rw [List.mem_iff_getElem?]; exact ⟨subE M 0 - 1, by rw [List.getElem?_drop, show 1 + (subE M 0 - 1) = subE M 0 by omega]; exact hy⟩)
    simp only at *
    omega
  · omega
/-- What comes of it. -/
theorem diff_facts {a b : ByteArray} {L M : List Nd} (hL : outT a = .ok L) (hM : outT b = .ok M) {d : ByteArray} (hd : DiffS L M d) :
    d.size ≤ 9000 ∧ scrN d L 0 1 = .ok M ∧ ((d.data.toList.count 10 : Nat) : Int) = dB L M 0 0 := by
  obtain ⟨mf, mt, hp, rfl⟩ := hd
  have pL := prgN_of hL
  have pM := prgN_of hM
  have l1 := pL.len
  have l2 := pM.len
  have g : ∀ st ∈ chg L (lbF M mf) (L.length - 1) ++ adds M mt 1 (M.length - 1), st.good := fun st hst => by
    rcases List.mem_append.1 hst with h | h
    · exact good_chg pM.lab _ (by omega) st h
    · exact good_adds (by omega) pM.lab _ 1 (by have := pM.prog.pos; omega) st h
  refine ⟨?_, ?_, ?_⟩
  · rw [mk_size]; exact script_size l1 l2 hp pM.labs
  · exact scr_run _ _ L M 0 1 g rfl (diff_run pL.prog pM.prog (by rw [pL.root, pM.root]) hp)
  · show (((scriptL (chg L (lbF M mf) (L.length - 1) ++ adds M mt 1 (M.length - 1))).count 10 : Nat) : Int) = _
    rw [script_count g, diff_len hp]
    unfold dB dN dSn
    rw [root_sub pL, root_sub pM]
theorem diff_patch {a b : ByteArray} {L M : List Nd} (hL : outT a = .ok L) (hM : outT b = .ok M) {d s : ByteArray} {c p : Int} (hd : DiffS L M d) (ho : PatchOut a d s c p) : s = b ∧ c = 0 ∧ p = 0 := by
  obtain ⟨h1, h2, _⟩ := diff_facts hL hM hd
  have ht := (prgN_of hM).text
  cases ho with
  | err c p h => rw [hL] at h; cases h
  | long n h hd => omega
  | bad n k h hd hr => rw [hL] at h; cases h; rw [h2] at hr; cases hr
  | none n K h hd hr ht' => rw [hL] at h; cases h; rw [h2] at hr; cases hr; rw [ht] at ht'; exact absurd hM ht'
  | ok n K h hd hr ht' => rw [hL] at h; cases h; rw [h2] at hr; cases hr; exact ⟨ht, rfl, rfl⟩

end Go.Proofs.YtdaneedflpfeaaaGreatDoor
