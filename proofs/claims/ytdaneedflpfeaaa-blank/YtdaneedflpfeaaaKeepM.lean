import Derived.Test.YtdaneedflpfeaaaKeepB
namespace Go.Proofs.Ytdaneedflpfeaaa
set_option maxRecDepth 100000
open Go.RowKit

/-! ## What the parser makes of tokens hangs on their kinds; their texts go into the leaves -/
def shp (r : Rw) : Nat × Bool × ByteArray := (r.deep, r.inner, if r.inner then r.text else ⟨#[]⟩)
def RelR : Option Res → Option Res → Prop
  | none, none => True
  | some (.fail j), some (.fail j') => j = j'
  | some (.ok l j), some (.ok l' j') => j = j' ∧ l.map shp = l'.map shp
  | _, _ => False
theorem shp_up {l l' : List Rw} (h : l.map shp = l'.map shp) : (l.map Rw.up).map shp = (l'.map Rw.up).map shp := by
  have e : ∀ l : List Rw, (l.map Rw.up).map shp = (l.map shp).map fun p => (p.1 + 1, p.2) := fun l => by
    rw [List.map_map, List.map_map]; rfl
  rw [e, e, h]
theorem shp_node (kd : ByteArray) {l l' : List Rw} (h : l.map shp = l'.map shp) : (nodeR kd l).map shp = (nodeR kd l').map shp := by
  unfold nodeR
  rw [List.map_cons, List.map_cons, shp_up h]
theorem kindA_same {toks toks' : List Tok} (h : toks.map (·.kind) = toks'.map (·.kind)) (k : Nat) : kindA toks k = kindA toks' k := by
  have e : (toks[k]?).map (·.kind) = (toks'[k]?).map (·.kind) := by rw [← List.getElem?_map, ← List.getElem?_map, h]
  unfold kindA
  cases h1 : toks[k]? with
  | none => cases h2 : toks'[k]? with
    | none => rfl
    | some t' => rw [h1, h2] at e; cases e
  | some t => cases h2 : toks'[k]? with
    | none => rw [h1, h2] at e; cases e
    | some t' => rw [h1, h2] at e; injection e
theorem parB {toks toks' : List Tok} (hk : toks.map (·.kind) = toks'.map (·.kind)) (f f' : G → Nat → Option Res) (ih : ∀ g k, RelR (f g k) (f' g k)) : ∀ b k, RelR (Ab toks f b k) (Ab toks' f' b k) := by
  have hget : ∀ k : Nat, (toks[k]?).map (·.kind) = (toks'[k]?).map (·.kind) := fun k => by rw [← List.getElem?_map, ← List.getElem?_map, hk]
  have hcond : ∀ k c, condA toks k c = condA toks' k c := fun k c => by unfold condA; rw [kindA_same hk, kindA_same hk]
  intro b
  induction b with
  | need kd =>
    intro k
    have e := hget k
    simp only [Ab]
    cases h1 : toks[k]? with
    | none => cases h2 : toks'[k]? with
      | none => exact rfl
      | some t' => rw [h1, h2] at e; cases e
    | some t => cases h2 : toks'[k]? with
      | none => rw [h1, h2] at e; cases e
      | some t' =>
        rw [h1, h2] at e
        simp only [Option.map_some, Option.some.injEq] at e
        simp only [e]
        split
        · exact ⟨rfl, rfl⟩
        · exact rfl
  | take =>
    intro k
    have e := hget k
    simp only [Ab]
    cases h1 : toks[k]? with
    | none => cases h2 : toks'[k]? with
      | none => trivial
      | some t' => rw [h1, h2] at e; cases e
    | some t => cases h2 : toks'[k]? with
      | none => rw [h1, h2] at e; cases e
      | some t' => exact ⟨rfl, rfl⟩
  | call g => intro k; exact ih g k
  | seq a b iha ihb =>
    intro k
    have ha := iha k
    simp only [Ab]
    cases h1 : Ab toks f a k with
    | none => cases h2 : Ab toks' f' a k with
      | none => trivial
      | some r => rw [h1, h2] at ha; exact ha.elim
    | some r => cases r with
      | fail j => cases h2 : Ab toks' f' a k with
        | none => rw [h1, h2] at ha; exact ha.elim
        | some r' => cases r' with
          | fail j' => rw [h1, h2] at ha; exact ha
          | ok l' j' => rw [h1, h2] at ha; exact ha.elim
      | ok l j => cases h2 : Ab toks' f' a k with
        | none => rw [h1, h2] at ha; exact ha.elim
        | some r' => cases r' with
          | fail j' => rw [h1, h2] at ha; exact ha.elim
          | ok l' j' =>
            rw [h1, h2] at ha
            obtain ⟨rfl, hl⟩ := ha
            have hb := ihb j
            simp only
            cases h3 : Ab toks f b j with
            | none => cases h4 : Ab toks' f' b j with
              | none => trivial
              | some r => rw [h3, h4] at hb; exact hb.elim
            | some r => cases r with
              | fail i => cases h4 : Ab toks' f' b j with
                | none => rw [h3, h4] at hb; exact hb.elim
                | some r' => cases r' with
                  | fail i' => rw [h3, h4] at hb; exact hb
                  | ok m' i' => rw [h3, h4] at hb; exact hb.elim
              | ok m i => cases h4 : Ab toks' f' b j with
                | none => rw [h3, h4] at hb; exact hb.elim
                | some r' => cases r' with
                  | fail i' => rw [h3, h4] at hb; exact hb.elim
                  | ok m' i' =>
                    rw [h3, h4] at hb
                    exact ⟨hb.1, by rw [List.map_append, List.map_append, hl, hb.2]⟩
  | ite c a b iha ihb =>
    intro k
    simp only [Ab, hcond]
    split
    · exact iha k
    · exact ihb k
  | skip => intro k; exact ⟨rfl, rfl⟩
  | node kd a iha =>
    intro k
    have ha := iha k
    simp only [Ab]
    cases h1 : Ab toks f a k with
    | none => cases h2 : Ab toks' f' a k with
      | none => trivial
      | some r => rw [h1, h2] at ha; exact ha.elim
    | some r => cases r with
      | fail j => cases h2 : Ab toks' f' a k with
        | none => rw [h1, h2] at ha; exact ha.elim
        | some r' => cases r' with
          | fail j' => rw [h1, h2] at ha; exact ha
          | ok l' j' => rw [h1, h2] at ha; exact ha.elim
      | ok l j => cases h2 : Ab toks' f' a k with
        | none => rw [h1, h2] at ha; exact ha.elim
        | some r' => cases r' with
          | fail j' => rw [h1, h2] at ha; exact ha.elim
          | ok l' j' => rw [h1, h2] at ha; exact ⟨ha.1, shp_node kd ha.2⟩
  | wrap kd a c b iha ihb =>
    intro k
    have ha := iha k
    simp only [Ab]
    cases h1 : Ab toks f a k with
    | none => cases h2 : Ab toks' f' a k with
      | none => trivial
      | some r => rw [h1, h2] at ha; exact ha.elim
    | some r => cases r with
      | fail j => cases h2 : Ab toks' f' a k with
        | none => rw [h1, h2] at ha; exact ha.elim
        | some r' => cases r' with
          | fail j' => rw [h1, h2] at ha; exact ha
          | ok l' j' => rw [h1, h2] at ha; exact ha.elim
      | ok l j => cases h2 : Ab toks' f' a k with
        | none => rw [h1, h2] at ha; exact ha.elim
        | some r' => cases r' with
          | fail j' => rw [h1, h2] at ha; exact ha.elim
          | ok l' j' =>
            rw [h1, h2] at ha
            obtain ⟨rfl, hl⟩ := ha
            have hb := ihb j
            simp only [hcond]
            split
            · cases h3 : Ab toks f b j with
              | none => cases h4 : Ab toks' f' b j with
                | none => trivial
                | some r => rw [h3, h4] at hb; exact hb.elim
              | some r => cases r with
                | fail i => cases h4 : Ab toks' f' b j with
                  | none => rw [h3, h4] at hb; exact hb.elim
                  | some r' => cases r' with
                    | fail i' => rw [h3, h4] at hb; exact hb
                    | ok m' i' => rw [h3, h4] at hb; exact hb.elim
                | ok m i => cases h4 : Ab toks' f' b j with
                  | none => rw [h3, h4] at hb; exact hb.elim
                  | some r' => cases r' with
                    | fail i' => rw [h3, h4] at hb; exact hb.elim
                    | ok m' i' =>
                      rw [h3, h4] at hb
                      exact ⟨hb.1, shp_node kd (by rw [List.map_append, List.map_append, hl, hb.2])⟩
            · exact ⟨rfl, hl⟩
theorem parG {toks toks' : List Tok} (hk : toks.map (·.kind) = toks'.map (·.kind)) (n : Nat) : ∀ g k, RelR (Ag toks n g k) (Ag toks' n g k) := by
  induction n with
  | zero => intro g k; trivial
  | succ n ih => intro g k; exact parB hk _ _ ih (body g) k
theorem parT {toks toks' : List Tok} (hk : toks.map (·.kind) = toks'.map (·.kind)) {l : List Rw} {j : Nat} (h : parseT toks = some (.ok l j)) : ∃ l', parseT toks' = some (.ok l' j) ∧ l.map shp = l'.map shp := by
  have hr := parG hk fuelT .program 0
  have h' : Ag toks fuelT .program 0 = some (.ok l j) := h
  rw [h'] at hr
  cases h2 : Ag toks' fuelT .program 0 with
  | none => rw [h2] at hr; exact hr.elim
  | some r => cases r with
    | fail i => rw [h2] at hr; exact hr.elim
    | ok l' j' => rw [h2] at hr; exact ⟨l', by rw [hr.1]; exact h2, hr.2⟩
/-- Of one shape, only leaves' texts can part. -/
theorem parts_shape : ∀ {l l' : List Rw}, l.map shp = l'.map shp → partsN (l.map labW) (l'.map labW) = partsN (leafT l) (leafT l') ∧ (leafT l).length = (leafT l').length := by
  intro l
  induction l with
  | nil => intro l' h; cases l' with
    | nil => exact ⟨rfl, rfl⟩
    | cons => simp at h
  | cons x l ih => intro l' h; cases l' with
    | nil => simp at h
    | cons y l' =>
      simp only [List.map_cons, List.cons.injEq] at h
      obtain ⟨h1, h2⟩ := h
      obtain ⟨i1, i2⟩ := ih h2
      simp only [shp, Prod.mk.injEq] at h1
      obtain ⟨_, hin, ht⟩ := h1
      cases hx : x.inner with
      | true =>
        have hy : y.inner = true := by rw [← hin]; exact hx
        rw [hx, hy] at ht
        simp only [if_true] at ht
        have e1 : leafT (x :: l) = leafT l := by simp [leafT, hx]
        have e2 : leafT (y :: l') = leafT l' := by simp [leafT, hy]
        rw [e1, e2, List.map_cons, List.map_cons, partsN, i1]
        refine ⟨?_, i2⟩
        have : labW x = labW y := by unfold labW; rw [hx, hy, ht]
        rw [this, Dist.rel_self]; omega
      | false =>
        have hy : y.inner = false := by rw [← hin]; exact hx
        have e1 : leafT (x :: l) = x.text :: leafT l := by simp [leafT, hx]
        have e2 : leafT (y :: l') = y.text :: leafT l' := by simp [leafT, hy]
        rw [e1, e2, List.map_cons, List.map_cons, partsN, partsN, i1]
        refine ⟨?_, by simp [i2]⟩
        have : Dist.rel (labW x) (labW y) = Dist.rel x.text y.text := by
          unfold Dist.rel labW
          rw [hx, hy]
          simp
        rw [this]
theorem shp_deep {l l' : List Rw} (h : l.map shp = l'.map shp) : l.map rdeep = l'.map rdeep := by
  have e : ∀ l : List Rw, l.map rdeep = (l.map shp).map fun p => (p.1 : Int) := fun l => by rw [List.map_map]; rfl
  rw [e, e, h]

end Go.Proofs.Ytdaneedflpfeaaa
