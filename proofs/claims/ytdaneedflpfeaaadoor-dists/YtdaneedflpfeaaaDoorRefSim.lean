import Derived.Test.YtdaneedflpfeaaaDoorRefM1
import Derived.Test.YtdaneedflpfeaaaDoorRefM2
import Derived.Test.YtdaneedflpfeaaaDoorRefM3
import Derived.Test.YtdaneedflpfeaaaDoorRefM4
import Derived.Test.YtdaneedflpfeaaaDoorRefM5
import Derived.Test.YtdaneedflpfeaaaDoorRefM6
import Derived.Test.YtdaneedflpfeaaaDoorRefTwin
import Derived.Test.YtdaneedflpfeaaaDoorSim
namespace Go.Proofs.YtdaneedflpfeaaaDoor
set_option maxRecDepth 100000
open Go.RowKit

/-- All methods of the document's reader, at every bound. -/
theorem rmethods {b : Nat} {lv : Value} {rt : List RTok} {toks : List Tok} (R : Rel rt toks) (n : Nat) : RIH b lv rt toks n := by
  induction n using Nat.strongRecOn with
  | ind n ih =>
    intro g st st' r w hg hP h
    cases n with
    | zero => cases h
    | succ n =>
      have ih' : ∀ m, m ≤ n → RIH b lv rt toks m := fun m hm => ih m (by omega)
      cases g
      all_goals first | (cases hg; done) | skip
      · exact rfunction_step R ih' hP h
      · exact rstatement_step R ih' hP h
      · exact rblock_step R ih' hP h
      · exact rvalue_step R ih' hP h
      · exact ror_step R ih' hP h
      · exact rand_step R ih' hP h
      · exact rrel_step R ih' hP h
      · exact rsum_step R ih' hP h
      · exact rprod_step R ih' hP h
      · exact rsingle_step R ih' hP h

end Go.Proofs.YtdaneedflpfeaaaDoor

namespace Go.Proofs.YtdaneedflpfeaaaDoor
set_option maxRecDepth 100000
open Go.RowKit

/-! ## What the document's rules make is what ours make -/
theorem Ab_rbody (toks : List Tok) (f : G → Nat → Option Res) (g : G) (k : Nat) : Ab toks f (rbody g) k = Ab toks f (body g) k := by
  cases g <;> try rfl
  have : ∀ j, Ab toks f (.ite (.go [41]) (.call .params) .skip) j = Ab toks f (.ite (.is [41]) .skip (.call .params)) j := by
    intro j
    have e : condA toks j (.go [41]) = !condA toks j (.is [41]) := rfl
    show (if condA toks j (.go [41]) = true then f .params j else some (.ok [] j)) = (if condA toks j (.is [41]) = true then some (.ok [] j) else f .params j)
    rw [e]
    cases condA toks j (.is [41]) <;> rfl
  simp only [rbody, body]
  simp only [Ab] at this ⊢
  simp only [this]

def deepOK (l : List Rw) : Prop := ∀ x ∈ l, x.deep < l.length
theorem deepOK.append {l m : List Rw} (h : deepOK l) (h2 : deepOK m) : deepOK (l ++ m) := by
  intro x hx
  rw [List.length_append]
  rcases List.mem_append.1 hx with hx | hx
  · have := h x hx; omega
  · have := h2 x hx; omega
theorem deepOK.node {l : List Rw} (h : deepOK l) (kd : ByteArray) : deepOK (nodeR kd l) := by
  intro x hx
  simp only [nodeR, List.length_cons, List.length_map]
  rcases List.mem_cons.1 hx with rfl | hx
  · exact Nat.succ_pos _
  · obtain ⟨y, hy, rfl⟩ := List.mem_map.1 hx
    have := h y hy
    show y.deep + 1 < _; omega
theorem deepOK.nil : deepOK [] := fun x hx => by cases hx
theorem deepOK.one (t : ByteArray) : deepOK [⟨0, false, t⟩] := fun x hx => by simp at hx; subst hx; simp
theorem fine_of {l : List Rw} (h : deepOK l) (hl : l.length ≤ 99999) : fineR l = true := by
  simp only [fineR, Bool.and_eq_true, decide_eq_true_eq, List.all_eq_true]
  exact ⟨hl, fun x hx => by have := h x hx; omega⟩

def costRG : G → Nat
  | .function => 2 | .params => 1 | .param => 1 | .statement => 1 | .block => 1 | .emptyS => 1 | .ifS => 2 | .whileS => 2 | .returnS => 1 | .localS => 1 | .expr => 1 | .set => 1 | .neg => 1 | .group => 1 | .program => 1
  | _ => 0
def costR : Gr → Nat
  | .call g => costRG g
  | .seq a b => costR a + costR b
  | .ite _ _ b => costR b
  | .node _ a => costR a + 1
  | .wrap _ a _ _ => costR a
  | _ => 0
def leadR : Gr → Nat
  | .call g => rankF g
  | .seq a b => max (leadR a) (leadR b)
  | .ite _ _ b => leadR b
  | .node _ a => leadR a
  | .wrap _ a _ _ => leadR a
  | _ => 0
def costN : Gr → Nat
  | .seq a b => max (costN a + costR b) (costN b)
  | .ite _ a b => max (costN a) (costN b)
  | .node _ a => costN a + 1
  | .wrap _ a _ b => max (costN a) (costN b + 1)
  | _ => 0
def costA : Gr → Nat
  | .call g => costRG g
  | .seq a b => costA a + costA b
  | .ite _ a b => max (costA a) (costA b)
  | .node _ a => costA a + 1
  | .wrap _ a _ b => max (costA a) (costA b)
  | _ => 0
theorem costR_le (b : Gr) : costR b ≤ costA b := by
  induction b with
  | seq a b ha hb => simp only [costR, costA]; omega
  | ite c a b ha hb => simp only [costR, costA]; omega
  | node k a ha => simp only [costR, costA]; omega
  | wrap k a c b ha hb => simp only [costR, costA]; omega
  | _ => exact Nat.le_refl _
theorem tablesR (g : G) : costR (rbody g) ≤ costRG g ∧ leadR (rbody g) < rankF g ∧ costN (rbody g) ≤ 5 ∧ costR (rbody g) ≤ 5 ∧ fineF (rbody g) = true ∧ posB (rbody g) = true ∧ leadA (rbody g) ≤ 20 ∧ costA (rbody g) ≤ 9 := by cases g <;> decide
theorem leadR_le (b : Gr) : leadR b ≤ leadA b := by
  induction b with
  | seq a b ha hb => simp only [leadR, leadA]; omega
  | ite c a b ha hb => simp only [leadR, leadA]; omega
  | node k a ha => exact ha
  | wrap k a c b ha hb => simp only [leadR, leadA]; omega
  | _ => exact Nat.le_refl _

theorem condR_no {toks : List Tok} {st : RSt} (h : ¬ st.bad < 0) (c : Cond) : condR toks st c = false := by simp [condR, h]
theorem condR_yes {toks : List Tok} {st : RSt} (h : st.bad < 0) (c : Cond) : condR toks st c = condA toks st.k c := by simp [condR, h]

theorem junkR (toks : List Tok) (m : Nat) (ih : ∀ g st, rankF g ≤ m → ¬ st.bad < 0 → ∃ l, Rg toks m g st = some (l, st) ∧ l.length ≤ costRG g ∧ deepOK l) :
    ∀ b st, leadR b ≤ m → ¬ st.bad < 0 → costR b ≤ 9 → ∃ l, RI toks (Rg toks m) b st = some (l, st) ∧ l.length ≤ costR b ∧ deepOK l := by
  intro b
  induction b with
  | need k =>
    intro st _ h _
    refine ⟨[], ?_, Nat.le_refl _, deepOK.nil⟩
    simp only [RI, needT, condR_no h, failT, if_neg h]
    rfl
  | take => intro st _ h _; exact ⟨[], by simp only [RI, takeT, if_neg h], Nat.le_refl _, deepOK.nil⟩
  | call g => intro st hl h _; exact ih g st hl h
  | seq a b iha ihb =>
    intro st hl h hc
    simp only [leadR] at hl
    simp only [costR] at hc ⊢
    obtain ⟨l1, e1, c1, d1⟩ := iha st (by omega) h (by omega)
    obtain ⟨l2, e2, c2, d2⟩ := ihb st (by omega) h (by omega)
    exact ⟨l1 ++ l2, by simp only [RI, e1, e2], by rw [List.length_append]; omega, d1.append d2⟩
  | ite c a b iha ihb =>
    intro st hl h hc
    obtain ⟨l1, e1, c1, d1⟩ := ihb st hl h hc
    exact ⟨l1, by simp only [RI, condR_no h]; exact e1, c1, d1⟩
  | skip => intro st _ _ _; exact ⟨[], rfl, Nat.le_refl _, deepOK.nil⟩
  | node k a iha =>
    intro st hl h hc
    simp only [costR] at hc ⊢
    obtain ⟨l1, e1, c1, d1⟩ := iha st hl h (by omega)
    exact ⟨nodeR k l1, by simp only [RI, e1, fine_of d1 (by omega), if_true], by simp only [nodeR, List.length_cons, List.length_map]; omega, d1.node k⟩
  | wrap k a c b iha ihb =>
    intro st hl h hc
    obtain ⟨l1, e1, c1, d1⟩ := iha st hl h hc
    exact ⟨l1, by simp only [RI, e1, condR_no h]; rfl, c1, d1⟩
theorem junkRG (toks : List Tok) (m : Nat) : ∀ g st, rankF g ≤ m → ¬ st.bad < 0 → ∃ l, Rg toks m g st = some (l, st) ∧ l.length ≤ costRG g ∧ deepOK l := by
  induction m with
  | zero => intro g st hr; have := (tablesR g).2.1; omega
  | succ m ih =>
    intro g st hr h
    have ht := tablesR g
    obtain ⟨l, e, c, d⟩ := junkR toks m ih (rbody g) st (by omega) h (by omega)
    exact ⟨l, e, by omega, d⟩

def placeT (toks : List Tok) (j : Nat) : Int := match toks[j]? with | some t => t.place | none => 0
theorem placeT_ok (toks : List Tok) (j : Nat) : ¬ placeT toks j < 0 := by unfold placeT; split <;> omega
theorem failT_place {toks : List Tok} {st : RSt} (hb : st.bad < 0) : failT toks st = ⟨st.k, placeT toks st.k⟩ := by
  unfold failT placeT; rw [if_pos hb]; cases toks[st.k]? <;> rfl
/-- The reader's state and rows against what a rule makes. -/
def MtR (toks : List Tok) (st : RSt) (M : Nat) : Res → List Rw → RSt → Prop
  | .ok m j, l, s' => l = m ∧ s' = ⟨j, st.bad⟩
  | .fail j, l, s' => s' = ⟨j, placeT toks j⟩ ∧ l.length ≤ M
theorem MtR.mono {toks : List Tok} {st : RSt} {M M' : Nat} {res : Res} {l : List Rw} {s' : RSt} (h : MtR toks st M res l s') (hm : M ≤ M') : MtR toks st M' res l s' := by
  cases res with
  | ok m j => exact h
  | fail j => exact ⟨h.1, by have := h.2; omega⟩

theorem simR (toks : List Tok) (n : Nat) (hT : toks.length ≤ 1000) (hn : n ≤ 10000)
    (ih : ∀ g k res, Ag toks n g k = some res → ∀ st, st.k = k → k ≤ toks.length → st.bad < 0 → ∃ l s', Rg toks (n + 20) g st = some (l, s') ∧ deepOK l ∧ MtR toks st (10 * (toks.length - k) + 5 * n) res l s') :
    ∀ b k res, Ab toks (Ag toks n) b k = some res → fineF b = true → posB b = true → leadA b ≤ 20 → costN b ≤ 9 → costA b ≤ 9 → ∀ st, st.k = k → k ≤ toks.length → st.bad < 0 →
      ∃ l s', RI toks (Rg toks (n + 20)) b st = some (l, s') ∧ deepOK l ∧ MtR toks st (10 * (toks.length - k) + 5 * n + costN b) res l s' := by
  have jk := fun b st (h1 : leadR b ≤ n + 20) => junkR toks (n + 20) (junkRG toks (n + 20)) b st h1
  intro b
  induction b with
  | need kd =>
    intro k res h hf _ _ _ _ st hk hkT hb
    subst hk
    simp only [Ab] at h
    split at h
    · rename_i t ht
      split at h
      · rename_i hkd
        cases h
        have hc : condR toks st (.is kd.data.toList) = true := by rw [condR_yes hb]; simp [condA, condK, kindA, ht, hkd]
        exact ⟨_, _, by simp only [RI, needT, hc, if_true, textT, ht], deepOK.one _, rfl, rfl⟩
      · rename_i hkd
        cases h
        have hc : condR toks st (.is kd.data.toList) = false := by
          rw [condR_yes hb]
          simp only [condA, condK, kindA, ht, beq_eq_false_iff_ne]
          exact fun e => hkd (ByteArray.ext (Array.toList_inj.mp e))
        exact ⟨[], failT toks st, by simp only [RI, needT, hc]; rfl, deepOK.nil, failT_place hb, Nat.zero_le _⟩
    · rename_i ht
      cases h
      have hk : lNone ≠ kd.data.toList := by simpa [fineF] using hf
      have hc : condR toks st (.is kd.data.toList) = false := by
        rw [condR_yes hb]
        simp only [condA, condK, kindA, ht, beq_eq_false_iff_ne]
        exact hk
      exact ⟨[], failT toks st, by simp only [RI, needT, hc]; rfl, deepOK.nil, failT_place hb, Nat.zero_le _⟩
  | take =>
    intro k res h _ _ _ _ _ st hk hkT hb
    subst hk
    simp only [Ab] at h
    split at h
    · rename_i t ht
      cases h
      exact ⟨_, _, by simp only [RI, takeT, if_pos hb, textT, ht], deepOK.one _, rfl, rfl⟩
    · cases h
  | call g =>
    intro k res h _ _ _ _ _ st hk hkT hb
    obtain ⟨l, s', e, d, m⟩ := ih g k res h st hk hkT hb
    exact ⟨l, s', e, d, m.mono (by omega)⟩
  | seq a b iha ihb =>
    intro k res h hf hp hl hcn hcr st hk hkT hb
    simp only [fineF, Bool.and_eq_true] at hf
    simp only [posB, Bool.and_eq_true] at hp
    obtain ⟨⟨_, hpa⟩, hpb⟩ := hp
    simp only [leadA] at hl
    simp only [costN] at hcn ⊢
    simp only [costA] at hcr
    simp only [Ab] at h
    have hlr := leadR_le b
    have hcl := costR_le b
    split at h
    · cases h
    · rename_i j h1
      cases h
      obtain ⟨l1, s1, e1, d1, m1, z1⟩ := iha k _ h1 hf.1 hpa (by omega) (by omega) (by omega) st hk hkT hb
      subst m1
      obtain ⟨l2, e2, z2, d2⟩ := jk b ⟨j, placeT toks j⟩ (by omega) (placeT_ok toks j) (by omega)
      exact ⟨l1 ++ l2, _, by simp only [RI, e1, e2], d1.append d2, rfl, by rw [List.length_append]; omega⟩
    · rename_i l j h1
      obtain ⟨l1, s1, e1, d1, m1, m1'⟩ := iha k _ h1 hf.1 hpa (by omega) (by omega) (by omega) st hk hkT hb
      subst m1 m1'
      have fa := rowsB toks _ (rowsG toks n) a k l1 j h1
      have hjT := fa.le hkT
      have hjk := fa.ge
      have hfew := fa.few
      have hsl := posB_slack hpa
      split at h
      · cases h
      · rename_i i h2
        cases h
        obtain ⟨l2, s2, e2, d2, m2, z2⟩ := ihb j _ h2 hf.2 hpb (by omega) (by omega) (by omega) ⟨j, st.bad⟩ rfl hjT hb
        exact ⟨l1 ++ l2, s2, by simp only [RI, e1, e2], d1.append d2, m2, by rw [List.length_append]; omega⟩
      · rename_i l3 i h2
        cases h
        obtain ⟨l2, s2, e2, d2, m2, m2'⟩ := ihb j _ h2 hf.2 hpb (by omega) (by omega) (by omega) ⟨j, st.bad⟩ rfl hjT hb
        subst m2 m2'
        exact ⟨l1 ++ l2, _, by simp only [RI, e1, e2], d1.append d2, rfl, rfl⟩
  | ite c a b iha ihb =>
    intro k res h hf hp hl hcn hcr st hk hkT hb
    simp only [fineF, Bool.and_eq_true] at hf
    simp only [posB, Bool.and_eq_true] at hp
    obtain ⟨⟨_, hpa⟩, hpb⟩ := hp
    simp only [leadA] at hl
    simp only [costN] at hcn ⊢
    simp only [costA] at hcr
    simp only [Ab] at h
    have hc : condR toks st c = condA toks k c := by rw [condR_yes hb, hk]
    split at h
    · rename_i hcc
      obtain ⟨l1, s1, e1, d1, m1⟩ := iha k _ h hf.1 hpa (by omega) (by omega) (by omega) st hk hkT hb
      exact ⟨l1, s1, by simp only [RI, hc, hcc, if_true]; exact e1, d1, m1.mono (by omega)⟩
    · rename_i hcc
      obtain ⟨l1, s1, e1, d1, m1⟩ := ihb k _ h hf.2 hpb (by omega) (by omega) (by omega) st hk hkT hb
      exact ⟨l1, s1, by simp only [RI, hc, hcc]; exact e1, d1, m1.mono (by omega)⟩
  | skip =>
    intro k res h _ _ _ _ _ st hk hkT hb
    cases h
    subst hk
    exact ⟨[], st, rfl, deepOK.nil, rfl, rfl⟩
  | node kd a iha =>
    intro k res h hf hp hl hcn hcr st hk hkT hb
    simp only [posB, Bool.and_eq_true] at hp
    obtain ⟨_, hpa⟩ := hp
    simp only [costN] at hcn ⊢
    simp only [costA] at hcr
    simp only [Ab] at h
    split at h
    · cases h
    · rename_i j h1
      cases h
      obtain ⟨l1, s1, e1, d1, m1, z1⟩ := iha k _ h1 hf hpa hl (by omega) (by omega) st hk hkT hb
      refine ⟨nodeR kd l1, s1, by simp only [RI, e1, fine_of d1 (show l1.length ≤ 99999 by omega), if_true], d1.node kd, m1, ?_⟩
      simp only [nodeR, List.length_cons, List.length_map]; omega
    · rename_i l j h1
      cases h
      obtain ⟨l1, s1, e1, d1, m1, m1'⟩ := iha k _ h1 hf hpa hl (by omega) (by omega) st hk hkT hb
      subst m1 m1'
      have fa := rowsB toks _ (rowsG toks n) a k l1 j h1
      have hjT := fa.le hkT
      have hfew := fa.few
      have hsl := posB_slack hpa
      exact ⟨nodeR kd l1, _, by simp only [RI, e1, fine_of d1 (show l1.length ≤ 99999 by omega), if_true], d1.node kd, rfl, rfl⟩
  | wrap kd a c b iha ihb =>
    intro k res h hf hp hl hcn hcr st hk hkT hb
    simp only [fineF, Bool.and_eq_true, Bool.not_eq_true'] at hf
    simp only [posB, Bool.and_eq_true] at hp
    obtain ⟨⟨_, hpa⟩, hpb⟩ := hp
    simp only [leadA] at hl
    simp only [costN] at hcn ⊢
    simp only [costA] at hcr
    simp only [Ab] at h
    split at h
    · cases h
    · rename_i j h1
      cases h
      obtain ⟨l1, s1, e1, d1, m1, z1⟩ := iha k _ h1 hf.1.2 hpa (by omega) (by omega) (by omega) st hk hkT hb
      subst m1
      exact ⟨l1, _, by simp only [RI, e1, condR_no (st := ⟨j, placeT toks j⟩) (placeT_ok toks j)]; rfl, d1, rfl, by omega⟩
    · rename_i l j h1
      obtain ⟨l1, s1, e1, d1, m1, m1'⟩ := iha k _ h1 hf.1.2 hpa (by omega) (by omega) (by omega) st hk hkT hb
      subst m1 m1'
      have fa := rowsB toks _ (rowsG toks n) a k l1 j h1
      have hjT := fa.le hkT
      have hjk := fa.ge
      have hfew := fa.few
      have hsl := posB_slack hpa
      have hc : condR toks ⟨j, st.bad⟩ c = condA toks j c := condR_yes (st := ⟨j, st.bad⟩) hb c
      split at h
      · rename_i hcc
        split at h
        · cases h
        · rename_i i h2
          cases h
          obtain ⟨l2, s2, e2, d2, m2, z2⟩ := ihb j _ h2 hf.2 hpb (by omega) (by omega) (by omega) ⟨j, st.bad⟩ rfl hjT hb
          have d3 := d1.append d2
          refine ⟨nodeR kd (l1 ++ l2), s2, by simp only [RI, e1, hc, hcc, if_true, e2, fine_of d3 (show (l1 ++ l2).length ≤ 99999 by rw [List.length_append]; omega)], d3.node kd, m2, ?_⟩
          simp only [nodeR, List.length_cons, List.length_map, List.length_append]; omega
        · rename_i l3 i h2
          cases h
          obtain ⟨l2, s2, e2, d2, m2, m2'⟩ := ihb j _ h2 hf.2 hpb (by omega) (by omega) (by omega) ⟨j, st.bad⟩ rfl hjT hb
          subst m2 m2'
          have fb := rowsB toks _ (rowsG toks n) b j l2 i h2
          have hiT := fb.le hjT
          have hfewb := fb.few
          have hslb := posB_slack hpb
          have d3 := d1.append d2
          exact ⟨nodeR kd (l1 ++ l2), _, by simp only [RI, e1, hc, hcc, if_true, e2, fine_of d3 (show (l1 ++ l2).length ≤ 99999 by rw [List.length_append]; omega)], d3.node kd, rfl, rfl⟩
      · rename_i hcc
        cases h
        exact ⟨l1, _, by simp only [RI, e1, hc, hcc]; rfl, d1, rfl, rfl⟩

theorem simRG (toks : List Tok) (hT : toks.length ≤ 1000) (n : Nat) : n ≤ 10000 → ∀ g k res, Ag toks n g k = some res → ∀ st, st.k = k → k ≤ toks.length → st.bad < 0 →
    ∃ l s', Rg toks (n + 20) g st = some (l, s') ∧ deepOK l ∧ MtR toks st (10 * (toks.length - k) + 5 * n) res l s' := by
  induction n with
  | zero => intro _ g k res h; cases h
  | succ n ih =>
    intro hn g k res h st hk hkT hb
    have ht := tablesR g
    obtain ⟨l, s', e, d, m⟩ := simR toks n hT (by omega) (ih (by omega)) (rbody g) k res (by rw [Ab_rbody]; exact h) ht.2.2.2.2.1 ht.2.2.2.2.2.1 ht.2.2.2.2.2.2.1 (by have := ht.2.2.1; omega) ht.2.2.2.2.2.2.2 st hk hkT hb
    exact ⟨l, s', by rw [show n + 1 + 20 = (n + 20) + 1 from by omega]; exact e, d, m.mono (by have := ht.2.2.1; omega)⟩

end Go.Proofs.YtdaneedflpfeaaaDoor

namespace Go.Proofs.YtdaneedflpfeaaaDoor
set_option maxRecDepth 100000
open Go.RowKit

theorem isTy_kind (raw : ByteArray) (h : isTy raw.toList = false) : isTy (kindB raw).toList = false := by
  have n1 : isTy kNone.toList = false := by rw [Go.ByteArray.toList_eq]; decide
  have n3 : isTy kName.toList = false := by rw [Go.ByteArray.toList_eq]; decide
  have n4 : isTy kNumber.toList = false := by rw [Go.ByteArray.toList_eq]; decide
  unfold kindB
  split
  · exact n1
  split
  · rename_i h2; rw [h] at h2; cases h2
  split
  · exact h
  split
  · exact n3
  split
  · exact n4
  · exact h
theorem kindW_what (raw : ByteArray) (h0 : raw.toList.isEmpty = false) : kindW (whatB raw) = kindB raw := by
  unfold whatB
  cases h : isTy raw.toList with
  | true =>
    rw [if_pos rfl]
    unfold kindW kindB
    rw [h, h0]; rfl
  | false =>
    rw [if_neg Bool.false_ne_true]
    unfold kindW
    rw [isTy_kind raw h]; rfl
theorem what_ty (raw : ByteArray) : whatB raw ≠ kType := by
  have n1 : kNone ≠ kType := by decide
  have n3 : kName ≠ kType := by decide
  have n4 : kNumber ≠ kType := by decide
  have hT : isTy kType.toList = false := by rw [Go.ByteArray.toList_eq]; decide
  have hK : isKw kType.toList = false := by rw [Go.ByteArray.toList_eq]; decide
  have hL : letterB (bt kType 0) = true := by decide
  intro e
  unfold whatB at e
  by_cases h : isTy raw.toList = true
  · rw [if_pos h] at e; rw [e, hT] at h; cases h
  rw [if_neg h] at e
  unfold kindB at e
  rw [if_neg h] at e
  by_cases h1 : raw.toList.isEmpty = true
  · rw [if_pos h1] at e; exact n1 e
  rw [if_neg h1] at e
  by_cases h2 : isKw raw.toList = true
  · rw [if_pos h2] at e; rw [e, hK] at h2; cases h2
  rw [if_neg h2] at e
  by_cases h3 : letterB (bt raw 0) = true
  · rw [if_pos h3] at e; exact n3 e
  rw [if_neg h3] at e
  by_cases h4 : digitB (bt raw 0) = true
  · rw [if_pos h4] at e; exact n4 e
  rw [if_neg h4] at e
  rw [e] at h3; exact h3 hL
theorem rscan_pos (s : ByteArray) (i : Nat) : 0 < (rscan s i).length := by
  rw [rscan]
  split <;> simp
theorem Rel.cons {rt : List RTok} {toks : List Tok} (h : Rel rt toks) (hp : 0 < rt.length) (r : RTok) (t : Tok) (h1 : kindW r.what = t.kind) (h2 : r.at_ = t.place) (h3 : r.whole = t.text) (h4 : r.what ≠ kType) : Rel (r :: rt) (t :: toks) := by
  refine ⟨by simp [h.len], fun i u hu => ?_⟩
  cases i with
  | zero =>
    simp at hu
    subst hu
    exact ⟨r, by simp, h1, h2, fun _ => h3, h4, fun _ _ => by simp; omega⟩
  | succ i =>
    rw [List.getElem?_cons_succ] at hu
    obtain ⟨q, hq, a1, a2, a3, a4, a5⟩ := h.at_ i u hu
    exact ⟨q, by rw [List.getElem?_cons_succ]; exact hq, a1, a2, a3, a4, fun b1 b2 => by have := a5 b1 b2; simp; omega⟩
/-- The document's tokens are ours. -/
theorem rel_scan (s : ByteArray) : ∀ n i, i ≤ s.size → s.size < n + i → Rel (rscan s i) (scanL s i) := by
  intro n
  induction n with
  | zero => intro i h1 h2; omega
  | succ n ih =>
    intro i hi hn
    have ha := aheadE_bd s i hi
    have ht := tokenE_bd s (aheadE s i) ha.2
    by_cases hlt : aheadE s i < tokenE s (aheadE s i)
    · rw [rscan_go hi rfl rfl hlt, scanL_go hi rfl rfl hlt]
      have hx := bt_ext s (aheadE s i) (tokenE s (aheadE s i)) hlt ht.2
      refine (ih (tokenE s (aheadE s i)) ht.2 (by omega)).cons (rscan_pos _ _) _ _ (kindW_what _ ?_) rfl rfl (what_ty _)
      rw [Go.ByteArray.toList_eq, Bool.eq_false_iff]
      intro e
      rw [List.isEmpty_iff] at e
      have : (s.extract (aheadE s i) (tokenE s (aheadE s i))).size = 0 := by
        show (s.extract (aheadE s i) (tokenE s (aheadE s i))).data.size = 0
        rw [← Array.length_toList, e]; rfl
      omega
    · rw [rscan_stop rfl hlt, scanL_stop rfl hlt]
      refine ⟨rfl, fun j u hu => ?_⟩
      cases j with
      | succ j => simp at hu
      | zero =>
        simp at hu
        subst hu
        by_cases hp : aheadE s i < s.size
        · refine ⟨⟨kNone, aheadE s i, emptyB⟩, by simp [hp], ?_, rfl, fun h => ?_, (show kNone ≠ kType by decide), fun h => ?_⟩
          · simp only [hp, if_true]; unfold kindW; rw [show isTy kNone.toList = false from by rw [Go.ByteArray.toList_eq]; decide]; rfl
          · simp only [hp, if_true] at h; exact absurd rfl h
          · simp only [hp, if_true] at h; exact absurd rfl h
        · refine ⟨⟨kEnd, aheadE s i, s.extract i (aheadE s i)⟩, by simp [hp], ?_, rfl, fun _ => rfl, (show kEnd ≠ kType by decide), fun _ h => ?_⟩
          · simp only [hp, if_false]; unfold kindW; rw [show isTy kEnd.toList = false from by rw [Go.ByteArray.toList_eq]; decide]; rfl
          · simp only [hp, if_false] at h; exact absurd rfl h

end Go.Proofs.YtdaneedflpfeaaaDoor
