import Derived.Test.YtdaneedflpfeaaaDoorSem
namespace Go.Proofs.YtdaneedflpfeaaaDoor
set_option maxRecDepth 100000
open Go.RowKit

theorem needL_no {toks : List Tok} {st : PSt} {k : ByteArray} (h : st.failed = true) (hk : lNone ≠ k.data.toList) : needL toks k st = st := by
  unfold needL
  rw [if_neg]
  · simp [failL, ← h]
  · intro he
    rw [kindL, kindAtL_no h] at he
    exact hk (by rw [← he]; rfl)
theorem takeL_no {toks : List Tok} {st : PSt} (h : st.failed = true) : takeL toks st = st := by simp [takeL, h]

/-- What a rule does to a parser that has failed: little. -/
def Idle (st st' : PSt) (N : Nat) : Prop := st'.failed = true ∧ st'.at_ = st.at_ ∧ sz st' N

theorem junkB (toks : List Tok) (m : Nat) (ih : ∀ g st N, rankF g ≤ m → st.failed = true → sz st N → N + costG g ≤ 999999 → ∃ st', P toks m g st = some st' ∧ Idle st st' (N + costG g)) :
    ∀ b st N, leadF b ≤ m → fineF b = true → st.failed = true → sz st N → N + costF b ≤ 999999 → ∃ st', PI toks m b st = some st' ∧ Idle st st' (N + costF b) := by
  intro b
  induction b with
  | need k =>
    intro st N _ hf h hs hN
    have hk : lNone ≠ k.data.toList := by simpa [fineF] using hf
    exact ⟨st, by simp [PI, needM, needL_no h hk, (szB_iff _).2 (hs.mono (show N ≤ 999999 by omega))], h, rfl, hs⟩
  | take =>
    intro st N _ _ h hs hN
    exact ⟨st, by simp [PI, takeM, takeL_no h, (szB_iff _).2 (hs.mono (show N ≤ 999999 by omega))], h, rfl, hs⟩
  | call g =>
    intro st N hl _ h hs hN
    exact ih g st N hl h hs hN
  | seq a b iha ihb =>
    intro st N hl hf h hs hN
    simp only [fineF, Bool.and_eq_true] at hf
    simp only [leadF] at hl
    simp only [costF] at hN ⊢
    obtain ⟨s1, e1, f1, a1, z1⟩ := iha st N (by omega) hf.1 h hs (by omega)
    obtain ⟨s2, e2, f2, a2, z2⟩ := ihb s1 (N + costF a) (by omega) hf.2 f1 z1 (by omega)
    exact ⟨s2, by simp [PI, e1, e2], f2, a2.trans a1, by rw [← Nat.add_assoc]; exact z2⟩
  | ite c a b iha ihb =>
    intro st N hl hf h hs hN
    simp only [fineF, Bool.and_eq_true] at hf
    simp only [leadF] at hl
    simp only [costF] at hN ⊢
    cases hc : condF c with
    | true =>
      simp only [hc, if_true] at hl hN ⊢
      obtain ⟨s1, e1, r⟩ := iha st N hl hf.1 h hs hN
      exact ⟨s1, by simp [PI, condP_no h, hc, e1], r⟩
    | false =>
      simp only [hc, Bool.false_eq_true, if_false] at hl hN ⊢
      obtain ⟨s1, e1, r⟩ := ihb st N hl hf.2 h hs hN
      exact ⟨s1, by simp [PI, condP_no h, hc, e1], r⟩
  | skip =>
    intro st N _ _ h hs _
    exact ⟨st, rfl, h, rfl, hs⟩
  | node k a iha =>
    intro st N hl hf h hs hN
    simp only [costF] at hN ⊢
    obtain ⟨s1, e1, f1, a1, z1⟩ := iha (openL k st) (N + 1) hl hf h (sz_open k hs) (by omega)
    refine ⟨closeL s1, ?_, f1, a1, ?_⟩
    · simp [PI, openM, closeM, (szB_iff _).2 (hs.mono (show N ≤ 999999 by omega)), e1, (szB_iff _).2 (z1.mono (show N + 1 + costF a ≤ 999999 by omega))]
    · exact (sz_close z1).mono (by omega)
  | wrap k a c b iha ihb =>
    intro st N hl hf h hs hN
    simp only [fineF, Bool.and_eq_true, Bool.not_eq_true'] at hf
    simp only [leadF, hf.1.1, Bool.false_eq_true, if_false] at hl
    simp only [costF, hf.1.1, Bool.false_eq_true, if_false] at hN ⊢
    obtain ⟨s1, e1, f1, r⟩ := iha st N hl hf.1.2 h hs hN
    exact ⟨s1, by simp [PI, e1, condP_no f1, hf.1.1], f1, r⟩

theorem junkG (toks : List Tok) (m : Nat) : ∀ g st N, rankF g ≤ m → st.failed = true → sz st N → N + costG g ≤ 999999 → ∃ st', P toks m g st = some st' ∧ Idle st st' (N + costG g) := by
  induction m with
  | zero => intro g st N hr; have := (tables g).2.1; omega
  | succ m ih =>
    intro g st N hr h hs hN
    have ht := tables g
    obtain ⟨s1, e1, f1, a1, z1⟩ := junkB toks m ih (body g) st N (by omega) ht.2.2.1 h hs (by omega)
    exact ⟨s1, by rw [P_body]; exact e1, f1, a1, z1.mono (by omega)⟩

end Go.Proofs.YtdaneedflpfeaaaDoor
