import Derived.Test.YtdaneedflpfeaabGreatDoorTwin
namespace Go.Proofs.YtdaneedflpfeaabGreatDoor
set_option maxRecDepth 100000
open Go.RowKit

def toNd (d : Int) (r : Rw) : Nd := ⟨r.inner, r.text, d + r.deep⟩
theorem toNd_up (d : Int) (r : Rw) : toNd d r.up = toNd (d + 1) r := by simp [toNd, Rw.up]; omega
theorem bump_toNd (d : Int) (r : Rw) : bump (toNd d r) = toNd (d + 1) r := by simp [toNd, bump]; omega
theorem map_node (d : Int) (kd : ByteArray) (l : List Rw) : (nodeR kd l).map (toNd d) = ⟨true, kd, d⟩ :: l.map (toNd (d + 1)) := by
  simp only [nodeR, List.map_cons, List.map_map]
  congr 1
  · simp [toNd]
  · exact List.map_congr_left fun r _ => toNd_up d r
theorem map_bump (d : Int) (l : List Rw) : (l.map (toNd d)).map bump = l.map (toNd (d + 1)) := by
  rw [List.map_map]; exact List.map_congr_left fun r _ => bump_toNd d r

/-- The state behind a rule that went well. -/
def okSt (st : PSt) (l : List Rw) (j : Nat) : PSt := ⟨j, false, st.nodes ++ l.map (toNd st.depth), st.depth⟩
/-- The parser's state against what a rule makes. -/
def Mt (st : PSt) (M : Nat) : Res → PSt → Prop
  | .ok l j, st' => st' = okSt st l j
  | .fail j, st' => st'.failed = true ∧ st'.at_ = j ∧ sz st' M

theorem sz_ok {st : PSt} {N : Nat} {l : List Rw} {j : Nat} (h : sz st N) (hd : ∀ x ∈ l, x.deep < l.length) : sz (okSt st l j) (N + l.length) := by
  have h1 := h.1; have h2 := h.2.1; have h3 := h.2.2.1
  refine ⟨by simp [okSt]; omega, by show -((N + l.length : Nat) : Int) ≤ st.depth; omega, by show st.depth ≤ ((N + l.length : Nat) : Int); omega, fun x hx => ?_⟩
  rcases List.mem_append.1 hx with hx | hx
  · have := h.2.2.2 x hx; omega
  · obtain ⟨y, hy, rfl⟩ := List.mem_map.1 hx
    have := hd y hy
    show -((N + l.length : Nat) : Int) ≤ st.depth + y.deep ∧ st.depth + y.deep ≤ ((N + l.length : Nat) : Int)
    omega

def opens : Gr → Nat
  | .seq a b => max (opens a) (opens b)
  | .ite _ a b => max (opens a) (opens b)
  | .node _ a => opens a + 1
  | .wrap _ a _ b => max (opens a) (opens b + 1)
  | _ => 0
/-- What a rule costs at most where it fails. -/
def costM : Gr → Nat
  | .seq a b => max (costM a + costF b) (costM b)
  | .ite _ a b => max (costM a) (costM b)
  | .node _ a => costM a + 2
  | .wrap _ a _ b => max (costM a + costF b) (costM b + 3)
  | _ => 0
def leadA : Gr → Nat
  | .call g => rankF g
  | .seq a b => max (leadA a) (leadA b)
  | .ite _ a b => max (leadA a) (leadA b)
  | .node _ a => leadA a
  | .wrap _ a _ b => max (leadA a) (leadA b)
  | _ => 0
theorem leadF_le (b : Gr) : leadF b ≤ leadA b := by
  induction b with
  | seq a b ha hb => simp only [leadF, leadA]; omega
  | ite c a b ha hb => simp only [leadF, leadA]; split <;> omega
  | node k a ha => exact ha
  | wrap k a c b ha hb => simp only [leadF, leadA]; split <;> omega
  | _ => exact Nat.le_refl _
def posB : Gr → Bool
  | .seq a b => decide (0 ≤ slackB (.seq a b)) && posB a && posB b
  | .ite c a b => decide (0 ≤ slackB (.ite c a b)) && posB a && posB b
  | .node k a => decide (0 ≤ slackB (.node k a)) && posB a
  | .wrap k a c b => decide (0 ≤ slackB (.wrap k a c b)) && posB a && posB b
  | .call g => decide (0 ≤ slackG g)
  | _ => true
theorem posB_slack {b : Gr} (h : posB b = true) : 0 ≤ slackB b := by
  cases b <;> simp [posB] at h <;> first | exact h.1.1 | exact h.1 | exact h | (simp [slackB]; done)
theorem tables3 (g : G) : opens (body g) ≤ 2 ∧ costM (body g) ≤ 40 ∧ leadA (body g) ≤ 20 ∧ costF (body g) ≤ 20 ∧ posB (body g) = true := by cases g <;> decide

theorem needL_hit {toks : List Tok} {st : PSt} {t : Tok} (h : st.failed = false) (ht : toks[st.at_]? = some t) : needL toks t.kind st = okSt st [⟨0, false, t.text⟩] (st.at_ + 1) := by
  simp [needL, kindL_ok h, kindA, ht, takeL, h, okSt, toNd]
theorem takeL_hit {toks : List Tok} {st : PSt} {t : Tok} (h : st.failed = false) (ht : toks[st.at_]? = some t) : takeL toks st = okSt st [⟨0, false, t.text⟩] (st.at_ + 1) := by
  simp [takeL, h, ht, okSt, toNd]
theorem okSt_nil (st : PSt) (h : st.failed = false) : okSt st [] st.at_ = st := by
  cases st; simp_all [okSt]
theorem okSt_ok (st : PSt) (l m : List Rw) (j i : Nat) : okSt (okSt st l j) m i = okSt st (l ++ m) i := by simp [okSt]
theorem close_node (st : PSt) (kd : ByteArray) (l : List Rw) (j : Nat) : closeL (okSt (openL kd st) l j) = okSt st (nodeR kd l) j := by
  simp [okSt, closeL, openL, map_node]
theorem around_ok (st : PSt) (kd : ByteArray) (l m : List Rw) (j i : Nat) : closeL (okSt (aroundL st.nodes.length kd (okSt st l j)) m i) = okSt st (nodeR kd (l ++ m)) i := by
  have e1 : (st.nodes ++ l.map (toNd st.depth)).take st.nodes.length = st.nodes := by simp
  have e2 : (st.nodes ++ l.map (toNd st.depth)).drop st.nodes.length = l.map (toNd st.depth) := by simp
  simp only [okSt, closeL, aroundL, e1, e2, map_bump, map_node, List.map_append]
  simp

/-- The bound of a rule's way: N: the state's size; k: the place; n: the bound on the calls. -/
abbrev Room (T k n N e : Nat) : Prop := N + 20 * (T - k) + 50 * n + 60 + e ≤ 999999

theorem simB (toks : List Tok) (n : Nat)
    (ih : ∀ g k res, Ag toks n g k = some res → ∀ st N, st.at_ = k → k ≤ toks.length → st.failed = false → sz st N → Room toks.length k n N 0 → ∃ st', P toks (n + 20) g st = some st' ∧ Mt st (N + 20 * (toks.length - k) + 50 * n) res st') :
    ∀ b k res, Ab toks (Ag toks n) b k = some res → fineF b = true → posB b = true → leadA b ≤ 20 → ∀ st N, st.at_ = k → k ≤ toks.length → st.failed = false → sz st N → Room toks.length k n N (opens b + costM b) →
      ∃ st', PI toks (n + 20) b st = some st' ∧ Mt st (N + 20 * (toks.length - k) + 50 * n + opens b + costM b) res st' := by
  have jk := fun b st N (h1 : leadF b ≤ n + 20) => junkB toks (n + 20) (junkG toks (n + 20)) b st N h1
  intro b
  induction b with
  | need kd =>
    intro k res h hf _ _ st N hk hkT hfl hs hR
    have hs9 : szB st = true := (szB_iff st).2 (hs.mono (by omega))
    subst hk
    simp only [Ab] at h
    split at h
    · rename_i t ht
      split at h
      · rename_i hkd
        cases h
        refine ⟨_, by simp only [PI, needM, if_pos hs9]; rfl, ?_⟩
        rw [← hkd]; exact needL_hit hfl ht
      · rename_i hkd
        cases h
        refine ⟨_, by simp only [PI, needM, if_pos hs9]; rfl, ?_⟩
        have : needL toks kd st = failL st := by simp [needL, kindL_ok hfl, kindA, ht, hkd]
        rw [this]
        exact ⟨rfl, rfl, (show sz (failL st) N from hs).mono (by omega)⟩
    · rename_i ht
      cases h
      refine ⟨_, by simp only [PI, needM, if_pos hs9]; rfl, ?_⟩
      have hk : lNone ≠ kd.data.toList := by simpa [fineF] using hf
      have : needL toks kd st = failL st := by
        unfold needL
        rw [if_neg]
        intro he
        rw [kindL_ok hfl, kindA, ht] at he
        exact hk (by rw [← he]; rfl)
      rw [this]
      exact ⟨rfl, rfl, (show sz (failL st) N from hs).mono (by omega)⟩
  | take =>
    intro k res h _ _ _ st N hk hkT hfl hs hR
    have hs9 : szB st = true := (szB_iff st).2 (hs.mono (by omega))
    subst hk
    simp only [Ab] at h
    split at h
    · rename_i t ht
      cases h
      exact ⟨_, by simp only [PI, takeM, if_pos hs9], takeL_hit hfl ht⟩
    · cases h
  | call g =>
    intro k res h _ _ _ st N hk hkT hfl hs hR
    obtain ⟨st', e, m⟩ := ih g k res h st N hk hkT hfl hs (by omega)
    refine ⟨st', e, ?_⟩
    cases res with
    | ok l j => exact m
    | fail j => exact ⟨m.1, m.2.1, m.2.2.mono (by omega)⟩
  | seq a b iha ihb =>
    intro k res h hf hp hl st N hk hkT hfl hs hR
    simp only [fineF, Bool.and_eq_true] at hf
    simp only [posB, Bool.and_eq_true] at hp
    obtain ⟨⟨_, hpa⟩, hpb⟩ := hp
    simp only [leadA] at hl
    simp only [opens, costM] at hR ⊢
    simp only [Ab] at h
    have hlf := leadF_le b
    split at h
    · cases h
    · rename_i j h1
      cases h
      obtain ⟨s1, e1, f1, a1, z1⟩ := iha k _ h1 hf.1 hpa (by omega) st N hk hkT hfl hs (by omega)
      obtain ⟨s2, e2, f2, a2, z2⟩ := jk b s1 _ (by omega) hf.2 f1 z1 (by omega)
      exact ⟨s2, by simp [PI, e1, e2], f2, a2.trans a1, z2.mono (by omega)⟩
    · rename_i l j h1
      obtain ⟨s1, e1, m1⟩ := iha k _ h1 hf.1 hpa (by omega) st N hk hkT hfl hs (by omega)
      have fa := rowsB toks _ (rowsG toks n) a k l j h1
      have m1' : s1 = okSt st l j := m1
      subst m1'
      have hz := sz_ok (j := j) hs fa.deep
      have hjT := fa.le hkT
      have hjk := fa.ge
      have hfew := fa.few
      have hsl := posB_slack hpa
      have hle : l.length + 20 * (toks.length - j) ≤ 20 * (toks.length - k) := by omega
      split at h
      · cases h
      · rename_i i h2
        cases h
        obtain ⟨s2, e2, m2⟩ := ihb j _ h2 hf.2 hpb (by omega) (okSt st l j) (N + l.length) rfl hjT rfl hz (by omega)
        exact ⟨s2, by simp [PI, e1, e2], m2.1, m2.2.1, m2.2.2.mono (by omega)⟩
      · rename_i l2 i h2
        cases h
        obtain ⟨s2, e2, m2⟩ := ihb j _ h2 hf.2 hpb (by omega) (okSt st l j) (N + l.length) rfl hjT rfl hz (by omega)
        refine ⟨s2, by simp [PI, e1, e2], ?_⟩
        have m2' : s2 = okSt (okSt st l j) l2 i := m2
        rw [m2']
        exact okSt_ok st l l2 j i
  | ite c a b iha ihb =>
    intro k res h hf hp hl st N hk hkT hfl hs hR
    simp only [fineF, Bool.and_eq_true] at hf
    simp only [posB, Bool.and_eq_true] at hp
    obtain ⟨⟨_, hpa⟩, hpb⟩ := hp
    simp only [leadA] at hl
    simp only [opens, costM] at hR ⊢
    simp only [Ab] at h
    have hc : condP toks st c = condA toks k c := by rw [condP_ok hfl, hk]
    have up : ∀ {r s x y}, Mt st x r s → x ≤ y → Mt st y r s := by
      intro r s x y hm hxy
      cases r with
      | ok l j => exact hm
      | fail j => exact ⟨hm.1, hm.2.1, hm.2.2.mono hxy⟩
    split at h
    · rename_i hcc
      obtain ⟨s1, e1, m1⟩ := iha k _ h hf.1 hpa (by omega) st N hk hkT hfl hs (by omega)
      exact ⟨s1, by simp only [PI, hc, hcc, if_true]; exact e1, up m1 (by omega)⟩
    · rename_i hcc
      obtain ⟨s1, e1, m1⟩ := ihb k _ h hf.2 hpb (by omega) st N hk hkT hfl hs (by omega)
      exact ⟨s1, by simp only [PI, hc, hcc]; exact e1, up m1 (by omega)⟩
  | skip =>
    intro k res h _ _ _ st N hk hkT hfl hs hR
    cases h
    refine ⟨st, rfl, ?_⟩
    subst hk
    exact (okSt_nil st hfl).symm
  | node kd a iha =>
    intro k res h hf hp hl st N hk hkT hfl hs hR
    simp only [posB, Bool.and_eq_true] at hp
    obtain ⟨_, hpa⟩ := hp
    simp only [opens, costM] at hR ⊢
    simp only [Ab] at h
    have hs9 : szB st = true := (szB_iff st).2 (hs.mono (by omega))
    have ho := sz_open kd hs
    split at h
    · cases h
    · rename_i j h1
      cases h
      obtain ⟨s1, e1, f1, a1, z1⟩ := iha k _ h1 hf hpa hl (openL kd st) (N + 1) hk hkT hfl ho (by omega)
      refine ⟨closeL s1, ?_, f1, a1, (sz_close z1).mono (by omega)⟩
      simp only [PI, openM, if_pos hs9, Option.bind_some, e1, closeM, if_pos ((szB_iff _).2 (z1.mono (show _ ≤ 999999 by omega)))]
    · rename_i l j h1
      cases h
      obtain ⟨s1, e1, m1⟩ := iha k _ h1 hf hpa hl (openL kd st) (N + 1) hk hkT hfl ho (by omega)
      have m1' : s1 = okSt (openL kd st) l j := m1
      subst m1'
      have fa := rowsB toks _ (rowsG toks n) a k l j h1
      have hz := sz_ok (j := j) ho fa.deep
      have hsl := posB_slack hpa
      have hjT := fa.le hkT
      have hfew := fa.few
      have hle : l.length ≤ 20 * (toks.length - k) + 60 := by omega
      refine ⟨_, ?_, close_node st kd l j⟩
      simp only [PI, openM, if_pos hs9, Option.bind_some, e1, closeM, if_pos ((szB_iff _).2 (hz.mono (show _ ≤ 999999 by omega)))]
  | wrap kd a c b iha ihb =>
    intro k res h hf hp hl st N hk hkT hfl hs hR
    simp only [fineF, Bool.and_eq_true, Bool.not_eq_true'] at hf
    simp only [posB, Bool.and_eq_true] at hp
    obtain ⟨⟨_, hpa⟩, hpb⟩ := hp
    simp only [leadA] at hl
    simp only [opens, costM] at hR ⊢
    simp only [Ab] at h
    split at h
    · cases h
    · rename_i j h1
      cases h
      obtain ⟨s1, e1, f1, a1, z1⟩ := iha k _ h1 hf.1.2 hpa (by omega) st N hk hkT hfl hs (by omega)
      exact ⟨s1, by simp [PI, e1, condP_no f1, hf.1.1], f1, a1, z1.mono (by omega)⟩
    · rename_i l j h1
      obtain ⟨s1, e1, m1⟩ := iha k _ h1 hf.1.2 hpa (by omega) st N hk hkT hfl hs (by omega)
      have fa := rowsB toks _ (rowsG toks n) a k l j h1
      have m1' : s1 = okSt st l j := m1
      subst m1'
      have hz := sz_ok (j := j) hs fa.deep
      have hjT := fa.le hkT
      have hjk := fa.ge
      have hfew := fa.few
      have hsl := posB_slack hpa
      have hle : l.length + 20 * (toks.length - j) ≤ 20 * (toks.length - k) := by omega
      have hc : condP toks (okSt st l j) c = condA toks j c := condP_ok rfl c
      split at h
      · rename_i hcc
        have hn : st.nodes.length ≤ (okSt st l j).nodes.length := by simp [okSt]
        have hz9 : szB (okSt st l j) = true ∧ st.nodes.length ≤ (okSt st l j).nodes.length := ⟨(szB_iff _).2 (hz.mono (by omega)), hn⟩
        have ha := sz_around hz kd st.nodes.length hn
        split at h
        · cases h
        · rename_i i h2
          cases h
          obtain ⟨s2, e2, f2, a2, z2⟩ := ihb j _ h2 hf.2 hpb (by omega) (aroundL st.nodes.length kd (okSt st l j)) (N + l.length + 1) rfl hjT rfl ha (by omega)
          refine ⟨closeL s2, ?_, f2, a2, (sz_close z2).mono (by omega)⟩
          simp only [PI, e1, Option.bind_some, hc, hcc, if_true, aroundM, if_pos hz9, e2, closeM, if_pos ((szB_iff _).2 (z2.mono (show _ ≤ 999999 by omega)))]
        · rename_i m i h2
          cases h
          obtain ⟨s2, e2, m2⟩ := ihb j _ h2 hf.2 hpb (by omega) (aroundL st.nodes.length kd (okSt st l j)) (N + l.length + 1) rfl hjT rfl ha (by omega)
          have m2' : s2 = okSt (aroundL st.nodes.length kd (okSt st l j)) m i := m2
          subst m2'
          have fb := rowsB toks _ (rowsG toks n) b j m i h2
          have hz2 := sz_ok (j := i) ha fb.deep
          have hiT := fb.le hjT
          have hfewb := fb.few
          have hslb := posB_slack hpb
          have hle2 : m.length ≤ 20 * (toks.length - j) := by omega
          refine ⟨_, ?_, around_ok st kd l m j i⟩
          simp only [PI, e1, Option.bind_some, hc, hcc, if_true, aroundM, if_pos hz9, e2, closeM, if_pos ((szB_iff _).2 (hz2.mono (show _ ≤ 999999 by omega)))]
      · rename_i hcc
        cases h
        refine ⟨okSt st l j, ?_, rfl⟩
        simp only [PI, e1, Option.bind_some, hc, hcc]
        rfl

theorem simG (toks : List Tok) (n : Nat) : ∀ g k res, Ag toks n g k = some res → ∀ st N, st.at_ = k → k ≤ toks.length → st.failed = false → sz st N → Room toks.length k n N 0 → ∃ st', P toks (n + 20) g st = some st' ∧ Mt st (N + 20 * (toks.length - k) + 50 * n) res st' := by
  induction n with
  | zero => intro g k res h; cases h
  | succ n ih =>
    intro g k res h st N hk hkT hfl hs hR
    have ht := tables g
    have ht3 := tables3 g
    obtain ⟨s1, e1, m1⟩ := simB toks n ih (body g) k res h ht.2.2.1 ht3.2.2.2.2 ht3.2.2.1 st N hk hkT hfl hs (by have := ht3.1; have := ht3.2.1; omega)
    refine ⟨s1, by rw [show n + 1 + 20 = (n + 20) + 1 from by omega, P_body]; exact e1, ?_⟩
    cases res with
    | ok l j => exact m1
    | fail j => exact ⟨m1.1, m1.2.1, m1.2.2.mono (by have := ht3.1; have := ht3.2.1; omega)⟩

end Go.Proofs.YtdaneedflpfeaabGreatDoor

namespace Go.Proofs.YtdaneedflpfeaabGreatDoor
set_option maxRecDepth 100000
open Go.RowKit

def rankT : G → Nat
  | .single => 2 | .prod => 3 | .sum => 4 | .rel => 5 | .and => 6 | .or => 7 | .value => 8 | .expr => 9 | .statement => 10 | .stmts => 11 | .params => 2 | .funcs => 2 | .values => 9 | .program => 3
  | _ => 1
def needsTok : G → Bool
  | .neg => true
  | _ => false
def leadT : Gr → Nat
  | .call g => rankT g
  | .seq a b => max (leadT a) (if minC a = 0 then leadT b else 0)
  | .ite _ a b => max (leadT a) (leadT b)
  | .node _ a => leadT a
  | .wrap _ a _ b => max (leadT a) (if minC a = 0 then leadT b else 0)
  | _ => 0
def maxT : Gr → Nat
  | .call g => rankT g
  | .seq a b => max (maxT a) (maxT b)
  | .ite _ a b => max (maxT a) (maxT b)
  | .node _ a => maxT a
  | .wrap _ a _ b => max (maxT a) (maxT b)
  | _ => 0
theorem leadT_le (b : Gr) : leadT b ≤ maxT b := by
  induction b with
  | seq a b ha hb => simp only [leadT, maxT]; split <;> omega
  | ite c a b ha hb => simp only [leadT, maxT]; omega
  | node k a ha => exact ha
  | wrap k a c b ha hb => simp only [leadT, maxT]; split <;> omega
  | _ => exact Nat.le_refl _
def strict : Cond → Bool
  | .go _ => false
  | c => !condK lNone [61] c
def okT : Bool → Gr → Bool
  | kn, .take => kn
  | kn, .call g => !needsTok g || kn
  | kn, .seq a b => okT kn a && okT false b
  | kn, .ite c a b => okT (kn || strict c) a && okT kn b
  | kn, .node _ a => okT kn a
  | kn, .wrap _ a c b => okT kn a && okT (strict c) b
  | _, _ => true
theorem tables4 (g : G) : leadT (body g) < rankT g ∧ maxT (body g) ≤ 11 ∧ okT (needsTok g) (body g) = true ∧ rankT g ≤ 11 := by cases g <;> decide

theorem strict_lt {toks : List Tok} {k : Nat} {c : Cond} (h : condA toks k c = true) (hs : strict c = true) : k < toks.length := by
  rcases Nat.lt_or_ge k toks.length with hl | hl
  · exact hl
  · have hk : (kindA toks k).data.toList = lNone := by rw [kindA, List.getElem?_eq_none hl]; rfl
    rw [condA, hk] at h
    cases c with
    | go m => cases hs
    | is m => simp [strict, condK] at hs h; exact absurd h hs
    | rel => simp [condK, relB, lNone] at h
    | sum => simp [condK, sumB, lNone] at h
    | prod => simp [condK, prodB, lNone] at h
    | set => simp [condK, lNone] at h
    | sign => simp [condK, lNone] at h

theorem totB (toks : List Tok) (n : Nat)
    (ih : ∀ g k, k ≤ toks.length → (needsTok g = true → k < toks.length) → 12 * (toks.length - k) + rankT g ≤ n → ∃ res, Ag toks n g k = some res) :
    ∀ b kn k, okT kn b = true → maxT b ≤ 11 → k ≤ toks.length → (kn = true → k < toks.length) → 12 * (toks.length - k) + leadT b ≤ n → ∃ res, Ab toks (Ag toks n) b k = some res := by
  intro b
  induction b with
  | need kd =>
    intro kn k _ _ _ _ _
    simp only [Ab]
    split
    · split <;> exact ⟨_, rfl⟩
    · exact ⟨_, rfl⟩
  | take =>
    intro kn k hok _ _ hkn _
    have hlt := hkn hok
    simp only [Ab, List.getElem?_eq_getElem hlt]
    exact ⟨_, rfl⟩
  | call g =>
    intro kn k hok _ hk hkn hn
    refine ih g k hk (fun hg => hkn ?_) hn
    simpa [okT, hg] using hok
  | seq a b iha ihb =>
    intro kn k hok hm hk hkn hn
    simp only [okT, Bool.and_eq_true] at hok
    simp only [maxT] at hm
    simp only [leadT] at hn
    obtain ⟨r, hr⟩ := iha kn k hok.1 (by omega) hk hkn (by omega)
    simp only [Ab, hr]
    cases r with
    | fail j => exact ⟨_, rfl⟩
    | ok l j =>
      have fa := rowsB toks _ (rowsG toks n) a k l j hr
      have h1 := fa.ge; have h2 := fa.le hk; have hle := leadT_le b
      have hb : 12 * (toks.length - j) + leadT b ≤ n := by
        by_cases h0 : minC a = 0
        · rw [if_pos h0] at hn; omega
        · omega
      obtain ⟨r2, hr2⟩ := ihb false j hok.2 (by omega) h2 (fun h => by cases h) hb
      simp only [hr2]
      cases r2 <;> exact ⟨_, rfl⟩
  | ite c a b iha ihb =>
    intro kn k hok hm hk hkn hn
    simp only [okT, Bool.and_eq_true] at hok
    simp only [maxT] at hm
    simp only [leadT] at hn
    simp only [Ab]
    split
    · rename_i hc
      refine iha _ k hok.1 (by omega) hk (fun h => ?_) (by omega)
      rcases Bool.or_eq_true_iff.1 h with h | h
      · exact hkn h
      · exact strict_lt hc h
    · exact ihb _ k hok.2 (by omega) hk hkn (by omega)
  | skip => intro kn k _ _ _ _ _; exact ⟨_, rfl⟩
  | node kd a iha =>
    intro kn k hok hm hk hkn hn
    obtain ⟨r, hr⟩ := iha kn k hok hm hk hkn hn
    simp only [Ab, hr]
    cases r <;> exact ⟨_, rfl⟩
  | wrap kd a c b iha ihb =>
    intro kn k hok hm hk hkn hn
    simp only [okT, Bool.and_eq_true] at hok
    simp only [maxT] at hm
    simp only [leadT] at hn
    obtain ⟨r, hr⟩ := iha kn k hok.1 (by omega) hk hkn (by omega)
    simp only [Ab, hr]
    cases r with
    | fail j => exact ⟨_, rfl⟩
    | ok l j =>
      have fa := rowsB toks _ (rowsG toks n) a k l j hr
      have h1 := fa.ge; have h2 := fa.le hk; have hle := leadT_le b
      have hb : 12 * (toks.length - j) + leadT b ≤ n := by
        by_cases h0 : minC a = 0
        · rw [if_pos h0] at hn; omega
        · omega
      simp only
      split
      · rename_i hc
        obtain ⟨r2, hr2⟩ := ihb _ j hok.2 (by omega) h2 (fun h => strict_lt hc h) hb
        simp only [hr2]
        cases r2 <;> exact ⟨_, rfl⟩
      · exact ⟨_, rfl⟩

theorem totG (toks : List Tok) (n : Nat) : ∀ g k, k ≤ toks.length → (needsTok g = true → k < toks.length) → 12 * (toks.length - k) + rankT g ≤ n → ∃ res, Ag toks n g k = some res := by
  induction n with
  | zero => intro g k _ _ h; have := (tables4 g).1; omega
  | succ n ih =>
    intro g k hk hg hn
    have ht := tables4 g
    exact totB toks n ih (body g) (needsTok g) k ht.2.2.1 ht.2.1 hk hg (by omega)

/-- The bound on the calls within each other that serves every text. -/
def fuelT : Nat := 7300
/-- What the grammar makes of a row of tokens. -/
def parseT (toks : List Tok) : Option Res := Ag toks fuelT .program 0
theorem parseT_some (toks : List Tok) (h : toks.length ≤ 601) : ∃ res, parseT toks = some res := totG toks fuelT .program 0 (Nat.zero_le _) (fun h => by cases h) (by show 12 * (toks.length - 0) + 3 ≤ 7300; omega)

end Go.Proofs.YtdaneedflpfeaabGreatDoor
