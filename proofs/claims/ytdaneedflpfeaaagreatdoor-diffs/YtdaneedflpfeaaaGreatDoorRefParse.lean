import Derived.Test.YtdaneedflpfeaaaGreatDoorRefM2
import Derived.Test.YtdaneedflpfeaaaGreatDoorRefM3
import Derived.Test.YtdaneedflpfeaaaGreatDoorRefM4
import Derived.Test.YtdaneedflpfeaaaGreatDoorRefM5
import Derived.Test.YtdaneedflpfeaaaGreatDoorRefM6
import Derived.Test.YtdaneedflpfeaaaGreatDoorRefNode
import Derived.Test.YtdaneedflpfeaaaGreatDoorSim
import Derived.Test.YtdaneedflpfeaaaGreatDoorRead
import Derived.Test.YtdaneedflpfeaaaGreatDoorOut
namespace Go.Proofs.YtdaneedflpfeaaaGreatDoor
set_option maxRecDepth 100000
open Go.RowKit

/-- All methods of the document's reader, at every bound. -/
theorem rmethods {b : Nat} {lv : Value} {rt : List RTok} {toks : List Tok} (R : Rel rt toks) (n : Nat) : RIH b lv rt toks n := by
  induction n using Nat.strongRecOn with
  | ind n ih =>
    intro g st st' r w hg hP h
    cases n with
    | zero => cases h
    | succ n =>
      have ih' : ∀ m, m ≤ n → RIH b lv rt toks m := fun m hm => ih m (by omega)
      cases g
      all_goals first | (cases hg; done) | skip
      · exact rfunction_step R ih' hP h
      · exact rstatement_step R ih' hP h
      · exact rblock_step R ih' hP h
      · exact rvalue_step R ih' hP h
      · exact ror_step R ih' hP h
      · exact rand_step R ih' hP h
      · exact rrel_step R ih' hP h
      · exact rsum_step R ih' hP h
      · exact rprod_step R ih' hP h
      · exact rsingle_step R ih' hP h

end Go.Proofs.YtdaneedflpfeaaaGreatDoor

namespace Go.Proofs.YtdaneedflpfeaaaGreatDoor
set_option maxRecDepth 100000
open Go.RowKit

/-! ## What the document's rules make is what ours make -/
theorem Ab_rbody (toks : List Tok) (f : G → Nat → Option Res) (g : G) (k : Nat) : Ab toks f (rbody g) k = Ab toks f (body g) k := by
  cases g <;> try rfl
  have : ∀ j, Ab toks f (.ite (.go [41]) (.call .params) .skip) j = Ab toks f (.ite (.is [41]) .skip (.call .params)) j := by
    intro j
    have e : condA toks j (.go [41]) = !condA toks j (.is [41]) := rfl
    show (if condA toks j (.go [41]) = true then f .params j else some (.ok [] j)) = (if condA toks j (.is [41]) = true then some (.ok [] j) else f .params j)
    rw [e]
    cases condA toks j (.is [41]) <;> rfl
  simp only [rbody, body]
  simp only [Ab] at this ⊢
  simp only [this]

def deepOK (l : List Rw) : Prop := ∀ x ∈ l, x.deep < l.length
theorem deepOK.append {l m : List Rw} (h : deepOK l) (h2 : deepOK m) : deepOK (l ++ m) := by
  intro x hx
  rw [List.length_append]
  rcases List.mem_append.1 hx with hx | hx
  · have := h x hx; omega
  · have := h2 x hx; omega
theorem deepOK.node {l : List Rw} (h : deepOK l) (kd : ByteArray) : deepOK (nodeR kd l) := by
  intro x hx
  simp only [nodeR, List.length_cons, List.length_map]
  rcases List.mem_cons.1 hx with rfl | hx
  · exact Nat.succ_pos _
  · obtain ⟨y, hy, rfl⟩ := List.mem_map.1 hx
    have := h y hy
    show y.deep + 1 < _; omega
theorem deepOK.nil : deepOK [] := fun x hx => by cases hx
theorem deepOK.one (t : ByteArray) : deepOK [⟨0, false, t⟩] := fun x hx => by simp at hx; subst hx; simp
theorem fine_of {l : List Rw} (h : deepOK l) (hl : l.length ≤ 99999) : fineR l = true := by
  simp only [fineR, Bool.and_eq_true, decide_eq_true_eq, List.all_eq_true]
  exact ⟨hl, fun x hx => by have := h x hx; omega⟩

def costRG : G → Nat
  | .function => 2 | .params => 1 | .param => 1 | .statement => 1 | .block => 1 | .emptyS => 1 | .ifS => 2 | .whileS => 2 | .returnS => 1 | .localS => 1 | .expr => 1 | .set => 1 | .neg => 1 | .group => 1 | .program => 1
  | _ => 0
def costR : Gr → Nat
  | .call g => costRG g
  | .seq a b => costR a + costR b
  | .ite _ _ b => costR b
  | .node _ a => costR a + 1
  | .wrap _ a _ _ => costR a
  | _ => 0
def leadR : Gr → Nat
  | .call g => rankF g
  | .seq a b => max (leadR a) (leadR b)
  | .ite _ _ b => leadR b
  | .node _ a => leadR a
  | .wrap _ a _ _ => leadR a
  | _ => 0
def costN : Gr → Nat
  | .seq a b => max (costN a + costR b) (costN b)
  | .ite _ a b => max (costN a) (costN b)
  | .node _ a => costN a + 1
  | .wrap _ a _ b => max (costN a) (costN b + 1)
  | _ => 0
def costA : Gr → Nat
  | .call g => costRG g
  | .seq a b => costA a + costA b
  | .ite _ a b => max (costA a) (costA b)
  | .node _ a => costA a + 1
  | .wrap _ a _ b => max (costA a) (costA b)
  | _ => 0
theorem costR_le (b : Gr) : costR b ≤ costA b := by
  induction b with
  | seq a b ha hb => simp only [costR, costA]; omega
  | ite c a b ha hb => simp only [costR, costA]; omega
  | node k a ha => simp only [costR, costA]; omega
  | wrap k a c b ha hb => simp only [costR, costA]; omega
  | _ => exact Nat.le_refl _
theorem tablesR (g : G) : costR (rbody g) ≤ costRG g ∧ leadR (rbody g) < rankF g ∧ costN (rbody g) ≤ 5 ∧ costR (rbody g) ≤ 5 ∧ fineF (rbody g) = true ∧ posB (rbody g) = true ∧ leadA (rbody g) ≤ 20 ∧ costA (rbody g) ≤ 9 := by cases g <;> decide
theorem leadR_le (b : Gr) : leadR b ≤ leadA b := by
  induction b with
  | seq a b ha hb => simp only [leadR, leadA]; omega
  | ite c a b ha hb => simp only [leadR, leadA]; omega
  | node k a ha => exact ha
  | wrap k a c b ha hb => simp only [leadR, leadA]; omega
  | _ => exact Nat.le_refl _

theorem condR_no {toks : List Tok} {st : RSt} (h : ¬ st.bad < 0) (c : Cond) : condR toks st c = false := by simp [condR, h]
theorem condR_yes {toks : List Tok} {st : RSt} (h : st.bad < 0) (c : Cond) : condR toks st c = condA toks st.k c := by simp [condR, h]

theorem junkR (toks : List Tok) (m : Nat) (ih : ∀ g st, rankF g ≤ m → ¬ st.bad < 0 → ∃ l, Rg toks m g st = some (l, st) ∧ l.length ≤ costRG g ∧ deepOK l) :
    ∀ b st, leadR b ≤ m → ¬ st.bad < 0 → costR b ≤ 9 → ∃ l, RI toks (Rg toks m) b st = some (l, st) ∧ l.length ≤ costR b ∧ deepOK l := by
  intro b
  induction b with
  | need k =>
    intro st _ h _
    refine ⟨[], ?_, Nat.le_refl _, deepOK.nil⟩
    simp only [RI, needT, condR_no h, failT, if_neg h]
    rfl
  | take => intro st _ h _; exact ⟨[], by simp only [RI, takeT, if_neg h], Nat.le_refl _, deepOK.nil⟩
  | call g => intro st hl h _; exact ih g st hl h
  | seq a b iha ihb =>
    intro st hl h hc
    simp only [leadR] at hl
    simp only [costR] at hc ⊢
    obtain ⟨l1, e1, c1, d1⟩ := iha st (by omega) h (by omega)
    obtain ⟨l2, e2, c2, d2⟩ := ihb st (by omega) h (by omega)
    exact ⟨l1 ++ l2, by simp only [RI, e1, e2], by rw [List.length_append]; omega, d1.append d2⟩
  | ite c a b iha ihb =>
    intro st hl h hc
    obtain ⟨l1, e1, c1, d1⟩ := ihb st hl h hc
    exact ⟨l1, by simp only [RI, condR_no h]; exact e1, c1, d1⟩
  | skip => intro st _ _ _; exact ⟨[], rfl, Nat.le_refl _, deepOK.nil⟩
  | node k a iha =>
    intro st hl h hc
    simp only [costR] at hc ⊢
    obtain ⟨l1, e1, c1, d1⟩ := iha st hl h (by omega)
    exact ⟨nodeR k l1, by simp only [RI, e1, fine_of d1 (by omega), if_true], by simp only [nodeR, List.length_cons, List.length_map]; omega, d1.node k⟩
  | wrap k a c b iha ihb =>
    intro st hl h hc
    obtain ⟨l1, e1, c1, d1⟩ := iha st hl h hc
    exact ⟨l1, by simp only [RI, e1, condR_no h]; rfl, c1, d1⟩
theorem junkRG (toks : List Tok) (m : Nat) : ∀ g st, rankF g ≤ m → ¬ st.bad < 0 → ∃ l, Rg toks m g st = some (l, st) ∧ l.length ≤ costRG g ∧ deepOK l := by
  induction m with
  | zero => intro g st hr; have := (tablesR g).2.1; omega
  | succ m ih =>
    intro g st hr h
    have ht := tablesR g
    obtain ⟨l, e, c, d⟩ := junkR toks m ih (rbody g) st (by omega) h (by omega)
    exact ⟨l, e, by omega, d⟩

def placeT (toks : List Tok) (j : Nat) : Int := match toks[j]? with | some t => t.place | none => 0
theorem placeT_ok (toks : List Tok) (j : Nat) : ¬ placeT toks j < 0 := by unfold placeT; split <;> omega
theorem failT_place {toks : List Tok} {st : RSt} (hb : st.bad < 0) : failT toks st = ⟨st.k, placeT toks st.k⟩ := by
  unfold failT placeT; rw [if_pos hb]; cases toks[st.k]? <;> rfl
/-- The reader's state and rows against what a rule makes. -/
def MtR (toks : List Tok) (st : RSt) (M : Nat) : Res → List Rw → RSt → Prop
  | .ok m j, l, s' => l = m ∧ s' = ⟨j, st.bad⟩
  | .fail j, l, s' => s' = ⟨j, placeT toks j⟩ ∧ l.length ≤ M
theorem MtR.mono {toks : List Tok} {st : RSt} {M M' : Nat} {res : Res} {l : List Rw} {s' : RSt} (h : MtR toks st M res l s') (hm : M ≤ M') : MtR toks st M' res l s' := by
  cases res with
  | ok m j => exact h
  | fail j => exact ⟨h.1, by have := h.2; omega⟩

theorem simR (toks : List Tok) (n : Nat) (hT : toks.length ≤ 1000) (hn : n ≤ 10000)
    (ih : ∀ g k res, Ag toks n g k = some res → ∀ st, st.k = k → k ≤ toks.length → st.bad < 0 → ∃ l s', Rg toks (n + 20) g st = some (l, s') ∧ deepOK l ∧ MtR toks st (10 * (toks.length - k) + 5 * n) res l s') :
    ∀ b k res, Ab toks (Ag toks n) b k = some res → fineF b = true → posB b = true → leadA b ≤ 20 → costN b ≤ 9 → costA b ≤ 9 → ∀ st, st.k = k → k ≤ toks.length → st.bad < 0 →
      ∃ l s', RI toks (Rg toks (n + 20)) b st = some (l, s') ∧ deepOK l ∧ MtR toks st (10 * (toks.length - k) + 5 * n + costN b) res l s' := by
  have jk := fun b st (h1 : leadR b ≤ n + 20) => junkR toks (n + 20) (junkRG toks (n + 20)) b st h1
  intro b
  induction b with
  | need kd =>
    intro k res h hf _ _ _ _ st hk hkT hb
    subst hk
    simp only [Ab] at h
    split at h
    · rename_i t ht
      split at h
      · rename_i hkd
        cases h
        have hc : condR toks st (.is kd.data.toList) = true := by rw [condR_yes hb]; simp [condA, condK, kindA, ht, hkd]
        exact ⟨_, _, by simp only [RI, needT, hc, if_true, textT, ht], deepOK.one _, rfl, rfl⟩
      · rename_i hkd
        cases h
        have hc : condR toks st (.is kd.data.toList) = false := by
          rw [condR_yes hb]
          simp only [condA, condK, kindA, ht, beq_eq_false_iff_ne]
          exact fun e => hkd (ByteArray.ext (Array.toList_inj.mp e))
        exact ⟨[], failT toks st, by simp only [RI, needT, hc]; rfl, deepOK.nil, failT_place hb, Nat.zero_le _⟩
    · rename_i ht
      cases h
      have hk : lNone ≠ kd.data.toList := by simpa [fineF] using hf
      have hc : condR toks st (.is kd.data.toList) = false := by
        rw [condR_yes hb]
        simp only [condA, condK, kindA, ht, beq_eq_false_iff_ne]
        exact hk
      exact ⟨[], failT toks st, by simp only [RI, needT, hc]; rfl, deepOK.nil, failT_place hb, Nat.zero_le _⟩
  | take =>
    intro k res h _ _ _ _ _ st hk hkT hb
    subst hk
    simp only [Ab] at h
    split at h
    · rename_i t ht
      cases h
      exact ⟨_, _, by simp only [RI, takeT, if_pos hb, textT, ht], deepOK.one _, rfl, rfl⟩
    · cases h
  | call g =>
    intro k res h _ _ _ _ _ st hk hkT hb
    obtain ⟨l, s', e, d, m⟩ := ih g k res h st hk hkT hb
    exact ⟨l, s', e, d, m.mono (by omega)⟩
  | seq a b iha ihb =>
    intro k res h hf hp hl hcn hcr st hk hkT hb
    simp only [fineF, Bool.and_eq_true] at hf
    simp only [posB, Bool.and_eq_true] at hp
    obtain ⟨⟨_, hpa⟩, hpb⟩ := hp
    simp only [leadA] at hl
    simp only [costN] at hcn ⊢
    simp only [costA] at hcr
    simp only [Ab] at h
    have hlr := leadR_le b
    have hcl := costR_le b
    split at h
    · cases h
    · rename_i j h1
      cases h
      obtain ⟨l1, s1, e1, d1, m1, z1⟩ := iha k _ h1 hf.1 hpa (by omega) (by omega) (by omega) st hk hkT hb
      subst m1
      obtain ⟨l2, e2, z2, d2⟩ := jk b ⟨j, placeT toks j⟩ (by omega) (placeT_ok toks j) (by omega)
      exact ⟨l1 ++ l2, _, by simp only [RI, e1, e2], d1.append d2, rfl, by rw [List.length_append]; omega⟩
    · rename_i l j h1
      obtain ⟨l1, s1, e1, d1, m1, m1'⟩ := iha k _ h1 hf.1 hpa (by omega) (by omega) (by omega) st hk hkT hb
      subst m1 m1'
      have fa := rowsB toks _ (rowsG toks n) a k l1 j h1
      have hjT := fa.le hkT
      have hjk := fa.ge
      have hfew := fa.few
      have hsl := posB_slack hpa
      split at h
      · cases h
      · rename_i i h2
        cases h
        obtain ⟨l2, s2, e2, d2, m2, z2⟩ := ihb j _ h2 hf.2 hpb (by omega) (by omega) (by omega) ⟨j, st.bad⟩ rfl hjT hb
        exact ⟨l1 ++ l2, s2, by simp only [RI, e1, e2], d1.append d2, m2, by rw [List.length_append]; omega⟩
      · rename_i l3 i h2
        cases h
        obtain ⟨l2, s2, e2, d2, m2, m2'⟩ := ihb j _ h2 hf.2 hpb (by omega) (by omega) (by omega) ⟨j, st.bad⟩ rfl hjT hb
        subst m2 m2'
        exact ⟨l1 ++ l2, _, by simp only [RI, e1, e2], d1.append d2, rfl, rfl⟩
  | ite c a b iha ihb =>
    intro k res h hf hp hl hcn hcr st hk hkT hb
    simp only [fineF, Bool.and_eq_true] at hf
    simp only [posB, Bool.and_eq_true] at hp
    obtain ⟨⟨_, hpa⟩, hpb⟩ := hp
    simp only [leadA] at hl
    simp only [costN] at hcn ⊢
    simp only [costA] at hcr
    simp only [Ab] at h
    have hc : condR toks st c = condA toks k c := by rw [condR_yes hb, hk]
    split at h
    · rename_i hcc
      obtain ⟨l1, s1, e1, d1, m1⟩ := iha k _ h hf.1 hpa (by omega) (by omega) (by omega) st hk hkT hb
      exact ⟨l1, s1, by simp only [RI, hc, hcc, if_true]; exact e1, d1, m1.mono (by omega)⟩
    · rename_i hcc
      obtain ⟨l1, s1, e1, d1, m1⟩ := ihb k _ h hf.2 hpb (by omega) (by omega) (by omega) st hk hkT hb
      exact ⟨l1, s1, by simp only [RI, hc, hcc]; exact e1, d1, m1.mono (by omega)⟩
  | skip =>
    intro k res h _ _ _ _ _ st hk hkT hb
    cases h
    subst hk
    exact ⟨[], st, rfl, deepOK.nil, rfl, rfl⟩
  | node kd a iha =>
    intro k res h hf hp hl hcn hcr st hk hkT hb
    simp only [posB, Bool.and_eq_true] at hp
    obtain ⟨_, hpa⟩ := hp
    simp only [costN] at hcn ⊢
    simp only [costA] at hcr
    simp only [Ab] at h
    split at h
    · cases h
    · rename_i j h1
      cases h
      obtain ⟨l1, s1, e1, d1, m1, z1⟩ := iha k _ h1 hf hpa hl (by omega) (by omega) st hk hkT hb
      refine ⟨nodeR kd l1, s1, by simp only [RI, e1, fine_of d1 (show l1.length ≤ 99999 by omega), if_true], d1.node kd, m1, ?_⟩
      simp only [nodeR, List.length_cons, List.length_map]; omega
    · rename_i l j h1
      cases h
      obtain ⟨l1, s1, e1, d1, m1, m1'⟩ := iha k _ h1 hf hpa hl (by omega) (by omega) st hk hkT hb
      subst m1 m1'
      have fa := rowsB toks _ (rowsG toks n) a k l1 j h1
      have hjT := fa.le hkT
      have hfew := fa.few
      have hsl := posB_slack hpa
      exact ⟨nodeR kd l1, _, by simp only [RI, e1, fine_of d1 (show l1.length ≤ 99999 by omega), if_true], d1.node kd, rfl, rfl⟩
  | wrap kd a c b iha ihb =>
    intro k res h hf hp hl hcn hcr st hk hkT hb
    simp only [fineF, Bool.and_eq_true, Bool.not_eq_true'] at hf
    simp only [posB, Bool.and_eq_true] at hp
    obtain ⟨⟨_, hpa⟩, hpb⟩ := hp
    simp only [leadA] at hl
    simp only [costN] at hcn ⊢
    simp only [costA] at hcr
    simp only [Ab] at h
    split at h
    · cases h
    · rename_i j h1
      cases h
      obtain ⟨l1, s1, e1, d1, m1, z1⟩ := iha k _ h1 hf.1.2 hpa (by omega) (by omega) (by omega) st hk hkT hb
      subst m1
      exact ⟨l1, _, by simp only [RI, e1, condR_no (st := ⟨j, placeT toks j⟩) (placeT_ok toks j)]; rfl, d1, rfl, by omega⟩
    · rename_i l j h1
      obtain ⟨l1, s1, e1, d1, m1, m1'⟩ := iha k _ h1 hf.1.2 hpa (by omega) (by omega) (by omega) st hk hkT hb
      subst m1 m1'
      have fa := rowsB toks _ (rowsG toks n) a k l1 j h1
      have hjT := fa.le hkT
      have hjk := fa.ge
      have hfew := fa.few
      have hsl := posB_slack hpa
      have hc : condR toks ⟨j, st.bad⟩ c = condA toks j c := condR_yes (st := ⟨j, st.bad⟩) hb c
      split at h
      · rename_i hcc
        split at h
        · cases h
        · rename_i i h2
          cases h
          obtain ⟨l2, s2, e2, d2, m2, z2⟩ := ihb j _ h2 hf.2 hpb (by omega) (by omega) (by omega) ⟨j, st.bad⟩ rfl hjT hb
          have d3 := d1.append d2
          refine ⟨nodeR kd (l1 ++ l2), s2, by simp only [RI, e1, hc, hcc, if_true, e2, fine_of d3 (show (l1 ++ l2).length ≤ 99999 by rw [List.length_append]; omega)], d3.node kd, m2, ?_⟩
          simp only [nodeR, List.length_cons, List.length_map, List.length_append]; omega
        · rename_i l3 i h2
          cases h
          obtain ⟨l2, s2, e2, d2, m2, m2'⟩ := ihb j _ h2 hf.2 hpb (by omega) (by omega) (by omega) ⟨j, st.bad⟩ rfl hjT hb
          subst m2 m2'
          have fb := rowsB toks _ (rowsG toks n) b j l2 i h2
          have hiT := fb.le hjT
          have hfewb := fb.few
          have hslb := posB_slack hpb
          have d3 := d1.append d2
          exact ⟨nodeR kd (l1 ++ l2), _, by simp only [RI, e1, hc, hcc, if_true, e2, fine_of d3 (show (l1 ++ l2).length ≤ 99999 by rw [List.length_append]; omega)], d3.node kd, rfl, rfl⟩
      · rename_i hcc
        cases h
        exact ⟨l1, _, by simp only [RI, e1, hc, hcc]; rfl, d1, rfl, rfl⟩

theorem simRG (toks : List Tok) (hT : toks.length ≤ 1000) (n : Nat) : n ≤ 10000 → ∀ g k res, Ag toks n g k = some res → ∀ st, st.k = k → k ≤ toks.length → st.bad < 0 →
    ∃ l s', Rg toks (n + 20) g st = some (l, s') ∧ deepOK l ∧ MtR toks st (10 * (toks.length - k) + 5 * n) res l s' := by
  induction n with
  | zero => intro _ g k res h; cases h
  | succ n ih =>
    intro hn g k res h st hk hkT hb
    have ht := tablesR g
    obtain ⟨l, s', e, d, m⟩ := simR toks n hT (by omega) (ih (by omega)) (rbody g) k res (by rw [Ab_rbody]; exact h) ht.2.2.2.2.1 ht.2.2.2.2.2.1 ht.2.2.2.2.2.2.1 (by have := ht.2.2.1; omega) ht.2.2.2.2.2.2.2 st hk hkT hb
    exact ⟨l, s', by rw [show n + 1 + 20 = (n + 20) + 1 from by omega]; exact e, d, m.mono (by have := ht.2.2.1; omega)⟩

end Go.Proofs.YtdaneedflpfeaaaGreatDoor

namespace Go.Proofs.YtdaneedflpfeaaaGreatDoor
set_option maxRecDepth 100000
open Go.RowKit

theorem isTy_kind (raw : ByteArray) (h : isTy raw.toList = false) : isTy (kindB raw).toList = false := by
  have n1 : isTy kNone.toList = false := by rw [Go.ByteArray.toList_eq]; decide
  have n3 : isTy kName.toList = false := by rw [Go.ByteArray.toList_eq]; decide
  have n4 : isTy kNumber.toList = false := by rw [Go.ByteArray.toList_eq]; decide
  unfold kindB
  split
  · exact n1
  split
  · rename_i h2; rw [h] at h2; cases h2
  split
  · exact h
  split
  · exact n3
  split
  · exact n4
  · exact h
theorem kindW_what (raw : ByteArray) (h0 : raw.toList.isEmpty = false) : kindW (whatB raw) = kindB raw := by
  unfold whatB
  cases h : isTy raw.toList with
  | true =>
    rw [if_pos rfl]
    unfold kindW kindB
    rw [h, h0]; rfl
  | false =>
    rw [if_neg Bool.false_ne_true]
    unfold kindW
    rw [isTy_kind raw h]; rfl
theorem what_ty (raw : ByteArray) : whatB raw ≠ kType := by
  have n1 : kNone ≠ kType := by decide
  have n3 : kName ≠ kType := by decide
  have n4 : kNumber ≠ kType := by decide
  have hT : isTy kType.toList = false := by rw [Go.ByteArray.toList_eq]; decide
  have hK : isKw kType.toList = false := by rw [Go.ByteArray.toList_eq]; decide
  have hL : letterB (bt kType 0) = true := by decide
  intro e
  unfold whatB at e
  by_cases h : isTy raw.toList = true
  · rw [if_pos h] at e; rw [e, hT] at h; cases h
  rw [if_neg h] at e
  unfold kindB at e
  rw [if_neg h] at e
  by_cases h1 : raw.toList.isEmpty = true
  · rw [if_pos h1] at e; exact n1 e
  rw [if_neg h1] at e
  by_cases h2 : isKw raw.toList = true
  · rw [if_pos h2] at e; rw [e, hK] at h2; cases h2
  rw [if_neg h2] at e
  by_cases h3 : letterB (bt raw 0) = true
  · rw [if_pos h3] at e; exact n3 e
  rw [if_neg h3] at e
  by_cases h4 : digitB (bt raw 0) = true
  · rw [if_pos h4] at e; exact n4 e
  rw [if_neg h4] at e
  rw [e] at h3; exact h3 hL
theorem rscan_pos (s : ByteArray) (i : Nat) : 0 < (rscan s i).length := by
  rw [rscan]
  split <;> simp
theorem Rel.cons {rt : List RTok} {toks : List Tok} (h : Rel rt toks) (hp : 0 < rt.length) (r : RTok) (t : Tok) (h1 : kindW r.what = t.kind) (h2 : r.at_ = t.place) (h3 : r.whole = t.text) (h4 : r.what ≠ kType) : Rel (r :: rt) (t :: toks) := by
  refine ⟨by simp [h.len], fun i u hu => ?_⟩
  cases i with
  | zero =>
    simp at hu
    subst hu
    exact ⟨r, by simp, h1, h2, fun _ => h3, h4, fun _ _ => by simp; omega⟩
  | succ i =>
    rw [List.getElem?_cons_succ] at hu
    obtain ⟨q, hq, a1, a2, a3, a4, a5⟩ := h.at_ i u hu
    exact ⟨q, by rw [List.getElem?_cons_succ]; exact hq, a1, a2, a3, a4, fun b1 b2 => by have := a5 b1 b2; simp; omega⟩
/-- The document's tokens are ours. -/
theorem rel_scan (s : ByteArray) : ∀ n i, i ≤ s.size → s.size < n + i → Rel (rscan s i) (scanL s i) := by
  intro n
  induction n with
  | zero => intro i h1 h2; omega
  | succ n ih =>
    intro i hi hn
    have ha := aheadE_bd s i hi
    have ht := tokenE_bd s (aheadE s i) ha.2
    by_cases hlt : aheadE s i < tokenE s (aheadE s i)
    · rw [rscan_go hi rfl rfl hlt, scanL_go hi rfl rfl hlt]
      have hx := bt_ext s (aheadE s i) (tokenE s (aheadE s i)) hlt ht.2
      refine (ih (tokenE s (aheadE s i)) ht.2 (by omega)).cons (rscan_pos _ _) _ _ (kindW_what _ ?_) rfl rfl (what_ty _)
      rw [Go.ByteArray.toList_eq, Bool.eq_false_iff]
      intro e
      rw [List.isEmpty_iff] at e
      have : (s.extract (aheadE s i) (tokenE s (aheadE s i))).size = 0 := by
        show (s.extract (aheadE s i) (tokenE s (aheadE s i))).data.size = 0
        rw [← Array.length_toList, e]; rfl
      omega
    · rw [rscan_stop rfl hlt, scanL_stop rfl hlt]
      refine ⟨rfl, fun j u hu => ?_⟩
      cases j with
      | succ j => simp at hu
      | zero =>
        simp at hu
        subst hu
        by_cases hp : aheadE s i < s.size
        · refine ⟨⟨kNone, aheadE s i, emptyB⟩, by simp [hp], ?_, rfl, fun h => ?_, (show kNone ≠ kType by decide), fun h => ?_⟩
          · simp only [hp, if_true]; unfold kindW; rw [show isTy kNone.toList = false from by rw [Go.ByteArray.toList_eq]; decide]; rfl
          · simp only [hp, if_true] at h; exact absurd rfl h
          · simp only [hp, if_true] at h; exact absurd rfl h
        · refine ⟨⟨kEnd, aheadE s i, s.extract i (aheadE s i)⟩, by simp [hp], ?_, rfl, fun _ => rfl, (show kEnd ≠ kType by decide), fun _ h => ?_⟩
          · simp only [hp, if_false]; unfold kindW; rw [show isTy kEnd.toList = false from by rw [Go.ByteArray.toList_eq]; decide]; rfl
          · simp only [hp, if_false] at h; exact absurd rfl h

end Go.Proofs.YtdaneedflpfeaaaGreatDoor

namespace Go.Proofs.YtdaneedflpfeaaaGreatDoor
set_option maxRecDepth 100000
open Go.RowKit

theorem rscan_at (s : ByteArray) : ∀ n i, i ≤ s.size → s.size < n + i → ∀ t ∈ rscan s i, t.at_ ≤ s.size := by
  intro n
  induction n with
  | zero => intro i h1 h2; omega
  | succ n ih =>
    intro i hi hn t ht
    have ha := aheadE_bd s i hi
    have hb := tokenE_bd s (aheadE s i) ha.2
    by_cases hlt : aheadE s i < tokenE s (aheadE s i)
    · rw [rscan_go hi rfl rfl hlt] at ht
      rcases List.mem_cons.1 ht with rfl | ht
      · exact ha.2
      · exact ih _ hb.2 (by omega) t ht
    · rw [rscan_stop rfl hlt] at ht
      simp at ht
      subst ht
      by_cases hp : aheadE s i < s.size
      · simp only [hp, if_true]; exact ha.2
      · simp only [hp, if_false]; exact ha.2
/-- The reader as Parse makes it. -/
theorem reader_new (s : ByteArray) (hs : s.size ≤ 600) {w1 : World} {base g cap : Nat} (ho : w1.ownsRow base 81 3 (.slice (some ⟨g, 0, none⟩) (rscan s 0).length cap) (rscan s 0).length (rtoksCells (rscan s 0))) (hg : g < w1.heap.size) :
    RS w1.heap.size (.slice (some ⟨g, 0, none⟩) (rscan s 0).length cap) (rscan s 0) (w1.alloc (.cells #[.slice (some ⟨g, 0, none⟩) (rscan s 0).length cap, .int .i64 0, .int .i64 (-1)] 77 (0, 0))) ⟨0, -1⟩ := by
  have hl := scanL_len s 0 (Nat.zero_le _)
  have hr := (rel_scan s (s.size + 1) 0 (Nat.zero_le _) (by omega)).len
  refine ⟨heap_alloc_new _ _, ownsRow_base (ho.alloc _) (Nat.zero_le _), ⟨g, cap, rfl, hg⟩, by omega, rscan_pos s 0, ⟨by decide, by decide⟩, fun t ht => ?_⟩
  have := rscan_at s (s.size + 1) 0 (Nat.zero_le _) (by omega) t ht
  omega

theorem Tryz.infoRow1 : (Tryz.prog.info? 51).map (·.size) = some 3 := by kernel_rfl
set_option maxHeartbeats 400000 in
theorem leaf_any (k x : ByteArray) (p : Int) (w : World) :
    Calls Tryz.prog 42 #[.agg #[.string k, .int .i64 p, .string x]] w fun e w' => e = .returned (.agg #[.int .i64 0, .bool true, .string x]) ∧ w' = (w.alloc (.cells #[.string k, .int .i64 p, .string x] 81 (0, 0))).alloc (.cells #[.int .i64 0, .bool true, .string x] 51 (0, 0)) := by
  go_enter Tryz.func42, Tryz.ntmps42
  go_wp2_with fail
  refine bodyPost_ret (results_cell_row rfl _ _ (w.heap.size + 1) _ _ (0, 0) _ rfl (new2 _ _ _) Tryz.underlying51 rfl Tryz.infoRow1) rfl ?_
  exact ⟨rfl, rfl⟩

end Go.Proofs.YtdaneedflpfeaaaGreatDoor

namespace Go.Proofs.YtdaneedflpfeaaaGreatDoor
set_option maxRecDepth 100000
open Go.RowKit

theorem new3 (w : World) (o1 o2 o3 : Obj) : (((w.alloc o1).alloc o2).alloc o3).heap[w.heap.size + 2]? = some o3 := by
  have h := heap_alloc_new ((w.alloc o1).alloc o2) o3
  have e : ((w.alloc o1).alloc o2).heap.size = w.heap.size + 2 := by simp
  rw [e] at h; exact h
/-- The last token of a text that was read to its end. -/
theorem end_here {rt : List RTok} {toks : List Tok} {st : RSt} (R : Rel rt toks) (hk : st.k < rt.length) (hc : condR toks st (.is kEnd.data.toList) = true) : ∃ r, rt[st.k]? = some r ∧ r.whole = textT toks st.k := by
  obtain ⟨t, ht⟩ : ∃ t, toks[st.k]? = some t := ⟨toks[st.k]'(by rw [R.len]; exact hk), List.getElem?_eq_getElem _⟩
  obtain ⟨r, hr, _, _, hw, _⟩ := R.at_ st.k t ht
  have hkx : t.kind = kEnd := by
    simp only [condR, condA, condK, kindA, ht, Bool.and_eq_true, beq_iff_eq] at hc
    exact ByteArray.ext (Array.toList_inj.mp hc.2)
  exact ⟨r, hr, by rw [hw (by rw [hkx]; decide)]; simp [textT, ht]⟩
/-- Rows that lie too deep. -/
def deepR (l : List Rw) : Bool := l.any fun x => x.inner && decide (20 ≤ x.deep)
/-- What Parse answers. -/
inductive ROutR where
  | err (c p : Int) | ok (l : List Rw)
def PostR (w : World) (o : ROutR) (e : Ending) (w' : World) : Prop := Below w.heap.size w w' ∧ match o with
  | .err c p => e = .returned (.tuple #[.slice none 0 0, .int .i64 c, .int .i64 p])
  | .ok l => ∃ v, e = .returned (.tuple #[v, .int .i64 0, .int .i64 0]) ∧ w'.ownsRow w.heap.size 51 3 v l.length (rwsCells l)
def outR (toks : List Tok) (l1 : List Rw) (s1 : RSt) : ROutR :=
  if s1.bad < 0 then (if deepR (l1 ++ [⟨0, false, textT toks s1.k⟩]) then .err 3 0 else if 80 < l1.length + 2 then .err 4 0 else .ok (l1 ++ [⟨0, false, textT toks s1.k⟩])) else .err 2 s1.bad

set_option maxHeartbeats 6400000 in
theorem refParse_core (s : ByteArray) (w : World) (hG : Glob w) (hw2 : 2 ≤ w.heap.size) (hs : s.size ≤ 600) {l1 : List Rw} {s1 : RSt} {n : Nat} (h1 : Rg (scanL s 0) n .funcs ⟨0, -1⟩ = some (l1, s1)) (hf : fineR l1 = true) :
    Calls Tryz.prog 21 #[.string s] w fun e w' => PostR w (outR (scanL s 0) l1 s1) e w' := by
  have HT := hide (tokens_any s w hs hG hw2)
  have HR := hide (rel_scan s (s.size + 1) 0 (Nat.zero_le _) (by omega))
  have X1 := hide h1
  have hL := fine_len hf
  have XF := hide hf
  obtain ⟨i0, hi, hz0, hz1, hz2⟩ := info_parts Tryz.infoRow
  clear hG h1 hf
  have hs' : ¬ (600 : Int) < (s.size : Int) := by omega
  go_enter Tryz.func21, Tryz.ntmps21
  go_wp2_with fail
  refine (unhide HT).mono ?_
  rintro e w1 ⟨g0, cap0, rfl, ho, hb, hg⟩
  have HRS := hide (reader_new s hs ho hg)
  have HB1 := hide hb
  have hsz1 := hb.size
  clear ho hb HT
  go_wp2_with fail
  have H0 := hide (Acc.start (unhide HRS))
  clear HRS
  have IHH := hide (fun m => rmethods (b := w1.heap.size) (lv := .slice (some ⟨g0, 0, none⟩) (rscan s 0).length cap0) (unhide HR) m)
  generalize hW0 : w1.alloc (.cells #[.slice (some ⟨g0, 0, none⟩) (rscan s 0).length cap0, .int .i64 0, .int .i64 (-1)] 77 (0, 0)) = W0 at *
  have HBW : Hid (Below w.heap.size w W0) := by show Below _ _ _; rw [← hW0]; exact (unhide HB1).alloc hsz1 _
  have hszW : w.heap.size ≤ W0.heap.size := (unhide HBW).size
  clear hW0 HB1
  generalize hlv : Value.slice (some ⟨g0, 0, none⟩) (rscan s 0).length cap0 = lv at *
  generalize hbb0 : w1.heap.size = b at *
  generalize hrt : rscan s 0 = rt at *
  generalize htk : scanL s 0 = toks at *
  go_loopg [6] n (fun g x wr => ∃ sk lk rk, g ≤ n ∧ Acc W0 b lv rt wr sk x lk ∧ Hid (Rg toks g .funcs sk = some (rk, s1)) ∧ Hid (lk ++ rk = l1))
  case atStart => exact ⟨⟨0, -1⟩, [], l1, Nat.le_refl _, unhide H0, unhide X1, rfl⟩
  case round =>
    obtain ⟨sk, lk, rk, hg, hA, XE, XQ⟩ := hrel
    have HA := hide hA
    obtain ⟨d0, d1, c2, df⟩ := hA.rs.cells
    clear hA
    cases gk with
    | zero => cases (unhide XE)
    | succ g =>
    rcases RI_ite (show RI toks (Rg toks g) (.ite (.go [101, 110, 100]) (.seq (.call .function) (.call .funcs)) .skip) sk = some (rk, s1) from unhide XE) with ⟨hck, hE⟩ | ⟨hck, hE⟩
    · obtain ⟨hb, hq⟩ := go_yes hck
      have hbb : decide (sk.bad < 0) = true := by simp [hb]
      obtain ⟨a1, q1, b1, e1, e2, rfl⟩ := RI_seq hE
      have Y1 : Hid (Rg toks g .function sk = some (a1, q1)) := e1
      have Y2 : Hid (Rg toks g .funcs q1 = some (b1, s1)) := e2
      have hlen := congrArg List.length (unhide XQ)
      simp only [List.length_append] at hlen
      clear hE e1 e2 XE
      go_wp2_with fail
      refine (is_acc (unhide HA) [kEnd] false (by decide) ((is_one (unhide HR) (unhide HA).rs.att _ (by decide)).trans hq)).mono ?_
      rintro e w1 ⟨rfl, a1⟩
      have H1 := hide a1
      clear a1
      go_wp2_with fail
      refine Calls.mono (call_acc (unhide IHH g) (unhide H1) .function rfl (unhide Y1)) ?_
      rintro e w2 ⟨u2, rfl, a2, k2⟩
      have H2 := hide a2
      have K2 := hide k2
      clear a2 k2
      go_wp2_with (first | (at_builtin; refine append_acc (unhide H2) (unhide K2) _ _ rfl rfl rfl rfl (by (try simp only [List.length_append]); omega) ?_) | fail)
      intro v3 w3 a3
      have H3 := hide a3
      clear a3
      go_wp2_with fail
      go_roundg g
      case measure => exact Nat.lt_succ_self g
      case rel => exact ⟨q1, _, b1, by omega, unhide H3, unhide Y2, by show _ = _; rw [← unhide XQ]; simp only [List.append_assoc]⟩
    · obtain ⟨rfl, rfl⟩ := RI_skip hE
      have hq : lk = l1 := by rw [← unhide XQ, List.append_nil]
      subst hq
      clear hE XE XQ
      rcases go_no hck with hb | ⟨hb, hq⟩
      · have hbb : decide (s1.bad < 0) = false := by simp [hb]
        have hbc : decide (0 ≤ s1.bad) = true := by simp; omega
        go_wp2_with fail
        go_quiet (fail)
        go_wp2_with fail
        go_ret3
        have hout : outR (scanL s 0) lk s1 = .err 2 s1.bad := by unfold outR; rw [if_neg (by omega)]
        rw [hout]
        exact ⟨((unhide HBW).grown (unhide HA).gr hszW (fun k hk => by cases hk; omega)).trans (below_drewN' _ _ _), rfl⟩
      · have hbb : decide (s1.bad < 0) = true := by simp [hb]
        have hbc : decide (0 ≤ s1.bad) = false := by simp; omega
        go_wp2_with fail
        refine (is_acc (unhide HA) [kEnd] true (by decide) ((is_one (unhide HR) (unhide HA).rs.att _ (by decide)).trans hq)).mono ?_
        rintro e w4 ⟨rfl, a4⟩
        have H4 := hide a4
        clear a4
        obtain ⟨f0, f1, f2, f3⟩ := (unhide H4).rs.cells
        obtain ⟨rr, hrr, hwh⟩ := end_here (unhide HR) (unhide H4).rs.att hq
        subst hlv
        obtain ⟨t0, t1, t2⟩ := (unhide H4).rs.tokCell rfl hrr
        have hatt := (unhide H4).rs.att
        have hfew := (unhide H4).rs.few
        have hlt' : (s1.k : Int) < (rt.length : Int) := by omega
        have HO : Hid (World.ownsRow w4 W0.heap.size 51 3 _ lk.length (rwsCells lk)) := (unhide H4).own
        have hszk := (unhide H4).size
        have c9 := rwsCells_len lk
        have HWH := hide hwh
        clear hck hq hrr hwh
        go_wp2_with fail
        go_region_law
          (first
            | (refine step_append_lies _ rfl (.tmp 40) (.tmp 52) 25 rfl W0.heap.size 51 i0 (.agg #[.int .i64 0, .bool false, .string ⟨#[]⟩]) 3 32 Tryz.underlying25 hi hz0 hz1 hz2 rfl (by decide) u6 lk.length (rwsCells lk) (by simp [Act.eval]) (by exact ((((unhide HO).alloc _).alloc _).alloc _).drew) ⟨w4.heap.size + 2, 0, none⟩ 1 1 [.int .i64 0, .bool true, .string rr.whole] (by simp [Act.eval]) rfl (rw_news _ _ _ (new3 _ _ _ _)) (rw_one _ _ _) (by decide) (by unfold maxLen; omega) (by omega) (by simp; omega) _ rfl ?_;
               intro g9 cap9 w9 hown9 hgrow9 _ _;
               have H9 := hide ((((((unhide H4).alloc _).alloc _).alloc _).none (grown_drew _ none)).app (m := lk ++ [⟨0, false, rr.whole⟩]) (by show World.ownsRow _ _ _ _ _ _ _; rw [List.length_append, rwsCells_append, rwsCells_one]; exact hown9) hgrow9);
               clear hown9 hgrow9)
            | (go_simp; refine (leaf_any _ _ _ _).mono ?_; rintro e w8 ⟨rfl, rfl⟩))
        all_goals go_wp2_with fail
        all_goals
          have XD : Hid (outR (scanL s 0) lk s1 = if deepR (lk ++ [⟨0, false, rr.whole⟩]) then .err 3 0 else if 80 < lk.length + 2 then .err 4 0 else .ok (lk ++ [⟨0, false, rr.whole⟩])) := by
            show outR _ _ _ = _
            unfold outR
            rw [if_pos (by omega), htk, ← unhide HWH]
          have hFl : (lk ++ [(⟨0, false, rr.whole⟩ : Rw)]).length = lk.length + 1 := by simp
          have hdF : ∀ x ∈ lk ++ [(⟨0, false, rr.whole⟩ : Rw)], x.deep ≤ 99999 := by
            have hfx := unhide XF
            simp only [fineR, Bool.and_eq_true, decide_eq_true_eq, List.all_eq_true] at hfx
            intro x hx
            rcases List.mem_append.1 hx with hx | hx
            · exact hfx.2 x hx
            · simp at hx; subst hx; exact Nat.zero_le _
          have HDF := hide hdF
          clear hdF HO HWH
          generalize hFF : lk ++ [(⟨0, false, rr.whole⟩ : Rw)] = F at *
          go_loopw [8, 56] (fun _ c wr => ∃ j : Nat, j ≤ F.length ∧ c = .int .i64 j ∧ Hid (deepR (F.take j) = false) ∧ Acc W0 b (.slice (some ⟨g0, 0, none⟩) rt.length cap0) rt wr s1 (.slice (some ⟨g9, 0, none⟩) (lk.length + 1) cap9) F) (fun _ c _ => F.length - (intOf c).toNat)
          case atStart => exact ⟨0, by omega, rfl, rfl, unhide H9⟩
          case round =>
            obtain ⟨j, hj, rfl, HJ, hA2⟩ := hrel
            have HA2 := hide hA2
            have hB2 : Below w.heap.size w wr := (unhide HBW).grown hA2.gr hszW (fun k hk => by cases hk; omega)
            have HB2 := hide hB2
            have hsz2 := hB2.size
            clear hA2 hB2
            by_cases hjl : j < F.length
            · obtain ⟨r0, r1, r2⟩ := rw_cells (cap := cap9) (by rw [hFl]; have := (unhide HA2).own; unfold Held at this; rw [hFl] at this; exact this) j hjl
              have hdj := unhide HDF _ (List.getElem_mem hjl)
              have HT2 : Hid (F.take (j + 1) = F.take j ++ [F[j]]) := List.take_succ_eq_append_getElem hjl
              have HMem := hide (List.getElem_mem hjl)
              have hjl' : (j : Int) < (lk.length : Int) + 1 := by omega
              generalize F[j]'hjl = r at *
              cases hin : r.inner with
              | false =>
                have HJ2 : Hid (deepR (F.take (j + 1)) = false) := by show _ = false; rw [unhide HT2]; have := unhide HJ; unfold deepR at this ⊢; rw [List.any_append, this]; simp [hin]
                rw [hin] at r1
                go_wp2_with fail
                go_roundw
                case rel => exact ⟨j + 1, by omega, by go_num, HJ2, (unhide HA2).alloc _⟩
                case measure => simp [intOf]; omega
              | true =>
                rw [hin] at r1
                by_cases hd : 20 ≤ r.deep
                · have hdb : decide ((20 : Int) ≤ (r.deep : Int)) = true := by simp; omega
                  have XO : Hid (outR (scanL s 0) lk s1 = .err 3 0) := by
                    show outR _ _ _ = _
                    have hd3 : deepR F = true := by unfold deepR; exact List.any_eq_true.2 ⟨r, unhide HMem, by simp [hin, hd]⟩
                    rw [unhide XD, hd3]; rfl
                  go_wp2_with fail
                  go_ret3
                  first | rw [unhide XO] | rw [← htk, unhide XO]
                  exact ⟨(unhide HB2).alloc hsz2 _, rfl⟩
                · have hdb : decide ((20 : Int) ≤ (r.deep : Int)) = false := by simp; omega
                  have HJ2 : Hid (deepR (F.take (j + 1)) = false) := by show _ = false; rw [unhide HT2]; have := unhide HJ; unfold deepR at this ⊢; rw [List.any_append, this]; simp [hd]
                  go_wp2_with fail
                  go_roundw
                  case rel => exact ⟨j + 1, by omega, by go_num, HJ2, (unhide HA2).alloc _⟩
                  case measure => simp [intOf]; omega
            · have hje : j = F.length := by omega
              have hnd : deepR F = false := by have := unhide HJ; rwa [List.take_of_length_le (by omega)] at this
              have hjl' : ¬ (j : Int) < (lk.length : Int) + 1 := by omega
              by_cases h80 : 80 < lk.length + 2
              · have h80b : decide ((80 : Int) < (lk.length : Int) + 1 + 1) = true := by simp; omega
                have XO : Hid (outR (scanL s 0) lk s1 = .err 4 0) := by show outR _ _ _ = _; rw [unhide XD, hnd, if_pos h80]; rfl
                go_wp2_with fail
                go_ret3
                first | rw [unhide XO] | rw [← htk, unhide XO]
                exact ⟨unhide HB2, rfl⟩
              · have h80b : decide ((80 : Int) < (lk.length : Int) + 1 + 1) = false := by simp; omega
                have XO : Hid (outR (scanL s 0) lk s1 = .ok F) := by show outR _ _ _ = _; rw [unhide XD, hnd, if_neg h80]; rfl
                go_wp2_with fail
                go_ret3
                first | rw [unhide XO] | rw [← htk, unhide XO]
                exact ⟨unhide HB2, _, rfl, ownsRow_base (unhide HA2).own hszW⟩

end Go.Proofs.YtdaneedflpfeaaaGreatDoor

namespace Go.Proofs.YtdaneedflpfeaaaGreatDoor
set_option maxRecDepth 100000
open Go.RowKit

/-- Behind the functions stands the end. -/
theorem funcs_end (toks : List Tok) (n : Nat) : ∀ k l j, Ag toks n .funcs k = some (.ok l j) → kindA toks j = kEnd := by
  induction n with
  | zero => intro k l j h; cases h
  | succ n ih =>
    intro k l j h
    have h' : Ab toks (Ag toks n) (.ite (.go [101, 110, 100]) (.seq (.call .function) (.call .funcs)) .skip) k = some (.ok l j) := h
    simp only [Ab] at h'
    split at h'
    · split at h'
      · cases h'
      · cases h'
      · split at h'
        · cases h'
        · cases h'
        · rename_i h2
          cases h'
          exact ih _ _ _ h2
    · rename_i hc
      cases h'
      simp only [condA, condK, Bool.not_eq_true', Bool.not_eq_false, beq_iff_eq] at hc
      exact ByteArray.ext (Array.toList_inj.mp hc)
theorem end_tok {toks : List Tok} {k : Nat} (h : kindA toks k = kEnd) : ∃ t, toks[k]? = some t ∧ t.kind = kEnd := by
  unfold kindA at h
  split at h
  · cases (show kNone ≠ kEnd from by decide) h
  · rename_i t ht; exact ⟨t, ht, h⟩

theorem innerD_step (l : List Nd) : ∀ d : Int, (20 < l.foldl innerStep d) ↔ (20 < d ∨ ∃ x ∈ l, x.inner = true ∧ 20 < x.depth) := by
  induction l with
  | nil => intro d; simp
  | cons x l ih =>
    intro d
    rw [List.foldl_cons, ih]
    simp only [innerStep, List.mem_cons, exists_eq_or_imp]
    split
    · rename_i h
      constructor
      · rintro (h1 | h1)
        · exact .inr (.inl ⟨h.1, h1⟩)
        · exact .inr (.inr h1)
      · rintro (h1 | ⟨_, h1⟩ | h1)
        · exact .inl (by omega)
        · exact .inl h1
        · exact .inr h1
    · rename_i h
      constructor
      · rintro (h1 | h1)
        · exact .inl h1
        · exact .inr (.inr h1)
      · rintro (h1 | ⟨h2, h1⟩ | h1)
        · exact .inl h1
        · exact .inl (by have : ¬ d < x.depth := fun hd => h ⟨h2, hd⟩; omega)
        · exact .inr h1
theorem deep_inner (l : List Rw) : deepR l = true ↔ 20 < innerD ((nodeR kProgram l).map (toNd 0)) := by
  rw [map_node, innerD, innerD_step]
  simp only [deepR, List.any_eq_true, Bool.and_eq_true, decide_eq_true_eq, List.mem_cons, List.mem_map]
  constructor
  · rintro ⟨x, hx, hi, hd⟩
    exact .inr ⟨_, .inr ⟨x, hx, rfl⟩, hi, by show (20 : Int) < 0 + 1 + (x.deep : Int); omega⟩
  · rintro (h | ⟨y, rfl | ⟨x, hx, rfl⟩, hi, hd⟩)
    · omega
    · simp at hd
    · refine ⟨x, hx, hi, ?_⟩
      have : (20 : Int) < 0 + 1 + (x.deep : Int) := hd
      omega

/-- Our answer against the document's. -/
def Same : ROut → ROutR → Prop
  | .err c p, .err c' p' => c = c' ∧ p = p'
  | .ok n, .ok l => n = (nodeR kProgram l).map (toNd 0) ∧ RC 0 l ∧ 1 ≤ l.length ∧ l.length ≤ 79 ∧ ∀ x ∈ l, x.deep ≤ 1000 ∧ x.text.size ≤ 1000
  | _, _ => False
theorem placeTA (toks : List Tok) (j : Nat) : placeT toks j = (placeA toks j : Int) := by unfold placeT placeA; cases toks[j]? <;> rfl

theorem kinds_small2 (g : G) : ∀ kd ∈ kindsOf (body g), kd.size ≤ 1000 := by
  have h : (kindsOf (body g)).all (fun kd => decide (kd.size ≤ 1000)) = true := by cases g <;> decide
  intro kd hk
  exact of_decide_eq_true (List.all_eq_true.1 h kd hk)
theorem same_out (s : ByteArray) (hs : s.size ≤ 600) : ∃ l1 s1 n, Rg (scanL s 0) n .funcs ⟨0, -1⟩ = some (l1, s1) ∧ fineR l1 = true ∧ Same (outT s) (outR (scanL s 0) l1 s1) := by
  have hlen := scanL_len s 0 (Nat.zero_le _)
  have htx := scanL_text s 0
  unfold outT
  rw [if_neg (by omega)]
  generalize scanL s 0 = toks at *
  obtain ⟨res, hres⟩ := totG toks 7299 .funcs 0 (Nat.zero_le _) (fun h => by cases h) (by show 12 * (toks.length - 0) + 2 ≤ 7299; omega)
  obtain ⟨l, s', e, d, m⟩ := simRG toks (by omega) 7299 (by omega) .funcs 0 res hres ⟨0, -1⟩ rfl (Nat.zero_le _) (by show (-1 : Int) < 0; omega)
  cases res with
  | fail j =>
    obtain ⟨rfl, hl⟩ := m
    have hp : parseT toks = some (.fail j) := by
      show Ab toks (Ag toks 7299) (.node kProgram (.seq (.call .funcs) (.need kEnd))) 0 = _
      simp only [Ab, hres]
    refine ⟨l, _, _, e, fine_of d (by omega), ?_⟩
    rw [hp]
    have : outR toks l ⟨j, placeT toks j⟩ = .err 2 (placeT toks j) := by unfold outR; rw [if_neg (placeT_ok toks j)]
    rw [this]
    exact ⟨rfl, (placeTA toks j).symm⟩
  | ok l1 k =>
    obtain ⟨rfl, rfl⟩ := m
    obtain ⟨t, ht, htk⟩ := end_tok (funcs_end toks _ _ _ _ hres)
    have fa := rowsG _ _ _ _ _ _ hres
    have hk := fa.le (Nat.zero_le _)
    have hfew := fa.few
    have hsl : slackG .funcs = 0 := rfl
    rw [hsl] at hfew
    have hp : parseT toks = some (.ok (nodeR kProgram (l ++ [⟨0, false, t.text⟩])) (k + 1)) := by
      show Ab toks (Ag toks 7299) (.node kProgram (.seq (.call .funcs) (.need kEnd))) 0 = _
      simp only [Ab, hres, ht, htk, if_true]
    refine ⟨l, _, _, e, fine_of d (by omega), ?_⟩
    rw [hp]
    have hlen2 : (nodeR kProgram (l ++ [⟨0, false, t.text⟩])).length = l.length + 2 := by simp [nodeR]
    have htt : textT toks k = t.text := by simp [textT, ht]
    simp only [outR, htt, hlen2]
    rw [if_pos (show (-1 : Int) < 0 by omega)]
    by_cases hd : deepR (l ++ [⟨0, false, t.text⟩]) = true
    · rw [if_pos hd, if_pos ((deep_inner _).1 hd)]; exact ⟨rfl, rfl⟩
    rw [if_neg hd, if_neg (fun h => hd ((deep_inner _).2 h))]
    by_cases hb : 80 < l.length + 2
    · rw [if_pos hb, if_pos hb]; exact ⟨rfl, rfl⟩
    rw [if_neg hb, if_neg hb]
    have sh := (shG toks _ _ _ _ _ hres).rc
    have hq := propG toks (fun x => x.text.size ≤ 1000) (fun x h => h) (fun t ht => by have := htx t ht; show t.text.size ≤ _; omega) kinds_small2 _ _ _ _ _ hres
    refine ⟨rfl, sh.append ⟨Nat.le_refl _, trivial⟩, by rw [List.length_append]; simp, by rw [List.length_append]; simp; omega, fun x hx => ?_⟩
    rcases List.mem_append.1 hx with hx | hx
    · exact ⟨by have := fa.deep x hx; omega, hq x hx⟩
    · simp at hx; subst hx
      exact ⟨Nat.zero_le _, by have := htx t (List.mem_of_getElem? ht); show t.text.size ≤ 1000; omega⟩

set_option maxHeartbeats 800000 in
theorem refParse_long (s : ByteArray) (w : World) (hs : 600 < s.size) : Calls Tryz.prog 21 #[.string s] w fun e w' => PostR w (.err 1 0) e w' := by
  have hs' : (600 : Int) < (s.size : Int) := by omega
  go_enter Tryz.func21, Tryz.ntmps21
  go_wp2_with fail
  go_ret3
  exact ⟨Below.refl _ _, rfl⟩
/-- Parse, of every text: as our own read. -/
theorem refParse_any (s : ByteArray) (w : World) (hG : Glob w) (hw2 : 2 ≤ w.heap.size) : Calls Tryz.prog 21 #[.string s] w fun e w' => ∃ o, Same (outT s) o ∧ PostR w o e w' := by
  by_cases hs : 600 < s.size
  · refine (refParse_long s w hs).mono ?_
    intro e w' h
    refine ⟨_, ?_, h⟩
    unfold outT
    rw [if_pos hs]
    exact ⟨rfl, rfl⟩
  · obtain ⟨l1, s1, n, h1, hf, hsm⟩ := same_out s (by omega)
    exact (refParse_core s w hG hw2 (by omega) h1 hf).mono fun e w' h => ⟨_, hsm, h⟩

end Go.Proofs.YtdaneedflpfeaaaGreatDoor
