import Derived.Test.YtdaneedflpfeaabGreatDoorOutF
import Derived.Test.YtdaneedflpfeaabGreatDoorPatV
import Derived.Test.YtdaneedflpfeaabGreatDoorDistI
namespace Go.Proofs.YtdaneedflpfeaabGreatDoor
set_option maxRecDepth 100000
open Go.RowKit

/-! ## Scripts, so that they can be computed -/
def goF (l : List Nd) (d : Int) : Nat → Nat → Nat
  | 0, e => e
  | n + 1, e => match l[e]? with
    | some x => if d < x.depth then goF l d n (e + 1) else e
    | none => e
theorem goE_F (l : List Nd) (d : Int) : ∀ n e, l.length ≤ n + e → goE l d e = goF l d n e := by
  intro n
  induction n with
  | zero => intro e h; rw [goE, dif_neg (by omega)]; rfl
  | succ n ih =>
    intro e h
    rw [goE, goF]
    by_cases he : e < l.length
    · rw [dif_pos he, List.getElem?_eq_getElem he]
      simp only
      rw [ih (e + 1) (by omega)]
    · rw [dif_neg he, List.getElem?_eq_none (by omega)]
def subF (l : List Nd) (k : Nat) : Nat := match l[k]? with
  | some x => goF l x.depth l.length (k + 1)
  | none => k + 1
theorem subE_F (l : List Nd) (k : Nat) : subE l k = subF l k := by
  unfold subE subF
  cases l[k]? with
  | none => rfl
  | some x => simp only; exact goE_F l _ _ _ (by omega)
def pastF (l : List Nd) (limit : Nat) : Nat → Nat → Nat × Bool
  | 0, a => (a, true)
  | n + 1, a => if limit ≤ a then (a, false) else pastF l limit n (subF l a)
theorem pastE_F (l : List Nd) (limit : Nat) : ∀ n a, pastE l limit n a = pastF l limit n a := by
  intro n
  induction n with
  | zero => intro a; rfl
  | succ n ih => intro a; rw [pastE, pastF, subE_F, ih]
def remF (l : List Nd) (k : Nat) : Option (List Nd) := if k < 1 ∨ l.length ≤ k then none else some (l.take k ++ ((l.drop (k + 1)).take (subF l k - (k + 1))).map (shN (-1)) ++ l.drop (subF l k))
def renF (l : List Nd) (k : Nat) (b : Bool) (t : ByteArray) : Option (List Nd) :=
  if k < 1 ∨ l.length ≤ k then none else if b = false ∧ k + 1 < subF l k then none else match l[k]? with | some x => some (l.set k ⟨b, t, x.depth⟩) | none => none
def insF (l : List Nd) (p i n : Nat) (b : Bool) (t : ByteArray) : Option (List Nd) :=
  match l[p]? with
  | none => none
  | some x => if x.inner = false then none else if 0 < n ∧ b = false then none else
    if (pastF l (subF l p) i (p + 1)).2 = false ∨ (pastF l (subF l p) n (pastF l (subF l p) i (p + 1)).1).2 = false then none else
    some (l.take (pastF l (subF l p) i (p + 1)).1 ++ [⟨b, t, x.depth + 1⟩] ++ ((l.drop (pastF l (subF l p) i (p + 1)).1).take ((pastF l (subF l p) n (pastF l (subF l p) i (p + 1)).1).1 - (pastF l (subF l p) i (p + 1)).1)).map (shN 1) ++ l.drop (pastF l (subF l p) n (pastF l (subF l p) i (p + 1)).1).1)
def stepF (l : List Nd) : Stp → Option (List Nd)
  | .ren k b t => renF l k b t
  | .del k => remF l k
  | .ins p i n b t => insF l p i n b t
theorem stepN_F (l : List Nd) (st : Stp) : stepN l st = stepF l st := by
  cases st with
  | ren k b t => show renN l k b t = renF l k b t; unfold renN renF; rw [subE_F]; rfl
  | del k => show remN l k = remF l k; unfold remN remF; rw [subE_F]
  | ins p i n b t => show insN l p i n b t = insF l p i n b t; unfold insN insF; simp only [subE_F, pastE_F]; rfl
def unF : Nat → List UInt8 → Option (List UInt8)
  | 0, l => if l = [] then some [] else none
  | n + 1, l => if (unB l).2 = 0 then (if l = [] then some [] else none) else (unF n (l.drop (unB l).2)).map ((unB l).1 :: ·)
theorem unL_F : ∀ n l, l.length ≤ n → unL l = unF n l := by
  intro n
  induction n with
  | zero =>
    intro l h
    have : l = [] := List.eq_nil_of_length_eq_zero (by omega)
    subst this
    rw [unL_nil]; rfl
  | succ n ih =>
    intro l h
    rw [unF]
    by_cases h0 : (unB l).2 = 0
    · rw [if_pos h0]
      by_cases hl : l = []
      · subst hl; rw [unL_nil]; rfl
      · rw [unL_no h0 hl, if_neg hl]
    · rw [if_neg h0, unL_yes h0, ih _ (by rw [List.length_drop]; have := unB_le l; omega)]
def labF : List UInt8 → Option (Bool × List UInt8)
  | [] => none
  | c :: t => if c = 64 then some (true, t) else if c = 39 then (unF t.length t).map fun o => (false, o) else none
theorem labV_F (l : List UInt8) : labV l = labF l := by
  cases l with
  | nil => rfl
  | cons c t => rw [labV, labF, unL_F t.length t (Nat.le_refl _)]
def stepWF : List (List UInt8) → Option Stp
  | [x, a, b] => if x = [114] then (match numV a, labF b with | some k, some l => some (.ren k l.1 (mk l.2)) | _, _ => none) else none
  | [x, a] => if x = [100] then (numV a).map .del else none
  | [x, a, b, c, d] => if x = [105] then (match numV a, numV b, numV c, labF d with | some p, some i, some n, some l => some (.ins p i n l.1 (mk l.2)) | _, _, _, _ => none) else none
  | _ => none
theorem stepW_F (l : List (List UInt8)) : stepW l = stepWF l := by
  match l with
  | [] => rfl
  | [_] => rfl
  | [x, a] => rfl
  | [x, a, b] => simp only [stepW, stepWF, labV_F]; rfl
  | [_, _, _, _] => rfl
  | [x, a, b, c, d] => simp only [stepW, stepWF, labV_F]; rfl
  | _ :: _ :: _ :: _ :: _ :: _ :: _ => rfl
def scrF (d : ByteArray) : Nat → List Nd → Nat → Nat → RunR
  | 0, l, _, _ => .ok l
  | n + 1, l, a, line => if a < d.size then
      (if runF noLf d d.size a < d.size then
        match stepWF (splitL 32 ((d.data.toList.drop a).take (runF noLf d d.size a - a))) with
        | none => .bad line
        | some st => match stepF l st with
          | none => .bad line
          | some m => scrF d n m (runF noLf d d.size a + 1) (line + 1)
      else .bad line)
    else .ok l
theorem scrN_F (d : ByteArray) : ∀ n l a line, d.size ≤ n + a → scrN d l a line = scrF d n l a line := by
  intro n
  induction n with
  | zero => intro l a line h; rw [scrN, dif_neg (by omega)]; rfl
  | succ n ih =>
    intro l a line h
    rw [scrN, scrF]
    by_cases ha : a < d.size
    · have hge := lineE_ge d a (by omega)
      have e := runE_F noLf d d.size a (by omega)
      rw [dif_pos ha, if_pos ha, ← e]
      by_cases hz : runE noLf d a < d.size
      · rw [dif_pos hz, if_pos hz, ← stepW_F]
        show (match stepW (splitL 32 (lineL d a)) with
          | none => RunR.bad line
          | some st => match stepN l st with
            | none => .bad line
            | some m => scrN d m (runE noLf d a + 1) (line + 1)) = _
        unfold lineL
        cases stepW (splitL 32 ((d.data.toList.drop a).take (runE noLf d a - a))) with
        | none => rfl
        | some st =>
          simp only
          rw [stepN_F]
          cases stepF l st with
          | none => rfl
          | some m => simp only; exact ih m _ _ (by omega)
      · rw [dif_neg hz, if_neg hz]
    · rw [dif_neg ha, if_neg ha]
def ndB (x y : Nd) : Bool := x.inner == y.inner && decide (x.text.data.toList = y.text.data.toList) && decide (x.depth = y.depth)
theorem ndB_iff (x y : Nd) : ndB x y = true ↔ x = y := by
  cases x with | mk i t d => cases y with | mk i' t' d' =>
  simp only [ndB, Bool.and_eq_true, beq_iff_eq, decide_eq_true_eq, Nd.mk.injEq]
  constructor
  · rintro ⟨⟨h1, h2⟩, h3⟩; exact ⟨h1, ByteArray.ext (Array.toList_inj.mp h2), h3⟩
  · rintro ⟨h1, h2, h3⟩; exact ⟨⟨h1, by rw [h2]⟩, h3⟩
def ndsB : List Nd → List Nd → Bool
  | [], [] => true
  | x :: l, y :: m => ndB x y && ndsB l m
  | _, _ => false
theorem ndsB_iff : ∀ l m, ndsB l m = true ↔ l = m := by
  intro l
  induction l with
  | nil => intro m; cases m <;> simp [ndsB]
  | cons x l ih => intro m; cases m with
    | nil => simp [ndsB]
    | cons y m => rw [ndsB, Bool.and_eq_true, ndB_iff, ih, List.cons.injEq]
/-- What Patch answers, so that it can be computed. -/
def patF (a d : ByteArray) : ByteArray × Int × Int := match outF a with
  | .err c _ => (⟨#[]⟩, c, 0)
  | .ok L => if 9000 < d.size then (⟨#[]⟩, 1, 0) else match scrF d d.size L 0 1 with
    | .bad k => (⟨#[]⟩, 5, (k : Int))
    | .ok K => match outF (mk (leafB K)) with
      | .err _ _ => (⟨#[]⟩, 6, 0)
      | .ok M => if ndsB M K then (mk (leafB K), 0, 0) else (⟨#[]⟩, 6, 0)
theorem patF_of {a d s : ByteArray} {c p : Int} (h : PatchOut a d s c p) : patF a d = (s, c, p) := by
  unfold patF
  rw [← outT_F]
  cases h with
  | err c p h => rw [h]
  | long n h hd => rw [h]; simp only; rw [if_pos hd]
  | bad n k h hd hr => rw [h]; simp only; rw [if_neg (by omega), ← scrN_F d d.size n 0 1 (by omega), hr]
  | none n L h hd hr ht =>
    rw [h]; simp only; rw [if_neg (by omega), ← scrN_F d d.size n 0 1 (by omega), hr]
    simp only
    rw [← outT_F]
    cases ho : outT (mk (leafB L)) with
    | err c p => rfl
    | ok M =>
      simp only
      rw [if_neg]
      intro hb
      rw [ho, (ndsB_iff M L).1 hb] at ht
      exact ht rfl
  | ok n L h hd hr ht =>
    rw [h]; simp only; rw [if_neg (by omega), ← scrN_F d d.size n 0 1 (by omega), hr]
    simp only
    rw [← outT_F, ht]
    simp only
    rw [if_pos ((ndsB_iff L L).2 rfl)]

/-! ## Distances, by a table that is given and held against the way they are reckoned -/
theorem beqN {x y : Nat} : Nat.beq x y = true ↔ x = y := by rw [Nat.beq_eq]
theorem bleN {x y : Nat} : Nat.ble x y = true ↔ x ≤ y := by rw [Nat.ble_eq]
structure Sg where
  a : Nat
  b : Nat
  i1 : Nat
  i2 : Nat
  i3 : Nat
def lk (T W p q : Nat) : Nat := (T >>> (8 * (p * W + q))) % 256
def isSg (S : List Sg) (i a b : Nat) : Bool := match S[i]? with
  | some s => Nat.beq s.a a && Nat.beq s.b b
  | none => false
theorem isSg_some {S : List Sg} {i a b : Nat} (h : isSg S i a b = true) : ∃ s, S[i]? = some s ∧ s.a = a ∧ s.b = b := by
  unfold isSg at h
  cases hs : S[i]? with
  | none => rw [hs] at h; cases h
  | some s =>
    rw [hs] at h
    simp only [Bool.and_eq_true, beqN] at h
    exact ⟨s, rfl, h.1, h.2⟩
/-- A part of a list of nodes, and the parts that it is reckoned by. -/
def okS (L : List Nd) (S : List Sg) (s : Sg) : Bool :=
  Nat.ble s.a s.b && Nat.ble s.b L.length && (Nat.beq s.a s.b || (Nat.ble (subF L s.a) s.b && isSg S s.i1 (s.a + 1) s.b && isSg S s.i2 (s.a + 1) (subF L s.a) && isSg S s.i3 (subF L s.a) s.b))
def okL (L M : List Nd) (K K' : Nat → Nat) : Bool := (List.range L.length).all fun i => (List.range M.length).all fun j => match L[i]?, M[j]? with
  | some x, some y => (x.inner == y.inner && decide (x.text.data.toList = y.text.data.toList)) == Nat.beq (K i) (K' j)
  | _, _ => false
def minN (x y : Nat) : Nat := if Nat.ble x y then x else y
theorem minN_eq (x y : Nat) : minN x y = min x y := by
  unfold minN
  by_cases h : x ≤ y
  · rw [if_pos (bleN.2 h), Nat.min_eq_left h]
  · rw [if_neg (by rw [bleN]; exact h), Nat.min_eq_right (by omega)]
def okC (T W : Nat) (K K' : Nat → Nat) (p q : Nat) (s t : Sg) : Bool :=
  Nat.beq (lk T W p q) (if Nat.beq s.a s.b then t.b - t.a else if Nat.beq t.a t.b then s.b - s.a else
    minN (minN (lk T W s.i1 q) (lk T W p t.i1) + 1) (lk T W s.i2 t.i2 + (if Nat.beq (K s.a) (K' t.a) then 0 else 1) + lk T W s.i3 t.i3))
def allI (f : Nat → Sg → Bool) : Nat → List Sg → Bool
  | _, [] => true
  | p, s :: S => f p s && allI f (p + 1) S
theorem allI_at {f : Nat → Sg → Bool} : ∀ {S : List Sg} {p : Nat}, allI f p S = true → ∀ i s, S[i]? = some s → f (p + i) s = true := by
  intro S
  induction S with
  | nil => intro p _ i s h; simp at h
  | cons x S ih =>
    intro p h i s hs
    rw [allI, Bool.and_eq_true] at h
    cases i with
    | zero => simp at hs; subst hs; exact h.1
    | succ i => have := ih h.2 i s (by simpa using hs); rw [show p + (i + 1) = p + 1 + i by omega]; exact this
def okD (L M : List Nd) (S S' : List Sg) (T W : Nat) (K K' : Nat → Nat) : Bool :=
  allI (fun _ s => okS L S s) 0 S && allI (fun _ t => okS M S' t) 0 S' && okL L M K K' && allI (fun p s => allI (fun q t => okC T W K K' p q s t) 0 S') 0 S
theorem okD_dist {L M : List Nd} {S S' : List Sg} {T W : Nat} {K K' : Nat → Nat} (h : okD L M S S' T W K K' = true) :
    ∀ n p q s t, s.b - s.a + (t.b - t.a) ≤ n → S[p]? = some s → S'[q]? = some t → Dist.dS Nd.depth lab L M s.a s.b t.a t.b = lk T W p q := by
  unfold okD at h
  simp only [Bool.and_eq_true] at h
  obtain ⟨⟨⟨h1, h2⟩, h3⟩, h4⟩ := h
  have lb : ∀ i j x y, L[i]? = some x → M[j]? = some y → Dist.rel (lab x) (lab y) = if Nat.beq (K i) (K' j) then 0 else 1 := by
    intro i j x y hx hy
    have hi := (List.getElem?_eq_some_iff.1 hx).1
    have hj := (List.getElem?_eq_some_iff.1 hy).1
    have := List.all_eq_true.1 (List.all_eq_true.1 h3 i (List.mem_range.2 hi)) j (List.mem_range.2 hj)
    rw [hx, hy] at this
    simp only [beq_iff_eq] at this
    rw [← this]
    unfold Dist.rel
    by_cases e : lab x = lab y
    · rw [if_pos e, if_pos]
      unfold lab at e
      simp only [Prod.mk.injEq] at e
      simp [e.1, e.2]
    · rw [if_neg e, if_neg]
      intro hb
      simp only [Bool.and_eq_true, beq_iff_eq, decide_eq_true_eq] at hb
      exact e (by unfold lab; rw [hb.1, show x.text = y.text from ByteArray.ext (Array.toList_inj.mp hb.2)])
  intro n
  induction n with
  | zero =>
    intro p q s t hn hs ht
    have a1 := allI_at h1 p s hs
    have a2 := allI_at h2 q t ht
    have a3 := allI_at (allI_at h4 p s hs) q t ht
    simp only [Nat.zero_add] at a3
    unfold okS at a1 a2
    simp only [Bool.and_eq_true, bleN] at a1 a2
    have e1 : s.a = s.b := by omega
    unfold okC at a3
    rw [beqN] at a3
    rw [a3, if_pos (beqN.2 e1), e1]
    exact Dist.dS_end _ _ _ _ _ _ _ a2.1.2
  | succ n ih =>
    intro p q s t hn hs ht
    have a1 := allI_at h1 p s hs
    have a2 := allI_at h2 q t ht
    have a3 := allI_at (allI_at h4 p s hs) q t ht
    simp only [Nat.zero_add] at a3
    unfold okS at a1 a2
    simp only [Bool.and_eq_true, Bool.or_eq_true, bleN, beqN] at a1 a2
    unfold okC at a3
    rw [beqN] at a3
    rw [a3]
    by_cases e1 : s.a = s.b
    · rw [if_pos (beqN.2 e1), e1]
      exact Dist.dS_end _ _ _ _ _ _ _ a2.1.2
    · rw [if_neg (by rw [beqN]; exact e1)]
      by_cases e2 : t.a = t.b
      · rw [if_pos (beqN.2 e2), e2]
        exact Dist.dS_end' _ _ _ _ _ _ _ a1.1.2
      · rw [if_neg (by rw [beqN]; exact e2)]
        obtain ⟨⟨⟨b0, b1⟩, b2⟩, b3⟩ := a1.2.resolve_left e1
        obtain ⟨⟨⟨c0, c1⟩, c2⟩, c3⟩ := a2.2.resolve_left e2
        obtain ⟨s1, k1, k2, k3⟩ := isSg_some b1
        obtain ⟨s2, k4, k5, k6⟩ := isSg_some b2
        obtain ⟨s3, k7, k8, k9⟩ := isSg_some b3
        obtain ⟨t1, l1, l2, l3⟩ := isSg_some c1
        obtain ⟨t2, l4, l5, l6⟩ := isSg_some c2
        obtain ⟨t3, l7, l8, l9⟩ := isSg_some c3
        have hsa : s.a < L.length := by omega
        have hta : t.a < M.length := by omega
        have hx : L[s.a]? = some L[s.a] := List.getElem?_eq_getElem hsa
        have hy : M[t.a]? = some M[t.a] := List.getElem?_eq_getElem hta
        have g1 := subE_le hsa
        have g2 := subE_le hta
        have hst := Dist.dS_step (h := lab) (subE_sub hsa) (subE_sub hta) (b := s.b) (b' := t.b) (by rw [subE_F]; exact b0) (by rw [subE_F]; exact c0) hx hy
        rw [subE_F, subE_F] at hst
        rw [subE_F] at g1
        rw [subE_F] at g2
        have r1 := ih s.i1 q s1 t (by omega) k1 ht
        have r2 := ih p t.i1 s t1 (by omega) hs l1
        have r3 := ih s.i2 t.i2 s2 t2 (by omega) k4 l4
        have r4 := ih s.i3 t.i3 s3 t3 (by omega) k7 l7
        rw [k2, k3] at r1
        rw [l2, l3] at r2
        rw [k5, k6, l5, l6] at r3
        rw [k8, k9, l8, l9] at r4
        rw [hst, r1, r2, r3, r4, lb _ _ _ _ hx hy, minN_eq, minN_eq]
/-- Of the whole trees. -/
theorem okD_all {L M : List Nd} {S S' : List Sg} {T W : Nat} {K K' : Nat → Nat} (h : okD L M S S' T W K K' = true) {p q n : Nat} (h1 : isSg S p 1 (subF L 0) = true) (h2 : isSg S' q 1 (subF M 0) = true) (hn : lk T W p q = n) : dB L M 0 0 = (n : Int) := by
  obtain ⟨s, hs, s1, s2⟩ := isSg_some h1
  obtain ⟨t, ht, t1, t2⟩ := isSg_some h2
  have := okD_dist h _ p q s t (Nat.le_refl _) hs ht
  unfold dB dN
  rw [subE_F, subE_F, Nat.zero_add]
  rw [s1, s2, t1, t2] at this
  rw [this, hn]

end Go.Proofs.YtdaneedflpfeaabGreatDoor
