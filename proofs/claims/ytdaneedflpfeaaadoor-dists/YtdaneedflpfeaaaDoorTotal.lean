import Derived.Test.YtdaneedflpfeaaaDoorSim
namespace Go.Proofs.YtdaneedflpfeaaaDoor
set_option maxRecDepth 100000
open Go.RowKit

def rankT : G → Nat
  | .single => 2 | .prod => 3 | .sum => 4 | .rel => 5 | .and => 6 | .or => 7 | .value => 8 | .expr => 9 | .statement => 10 | .stmts => 11 | .params => 2 | .funcs => 2 | .values => 9 | .program => 3
  | _ => 1
def needsTok : G → Bool
  | .neg => true
  | _ => false
def leadT : Gr → Nat
  | .call g => rankT g
  | .seq a b => max (leadT a) (if minC a = 0 then leadT b else 0)
  | .ite _ a b => max (leadT a) (leadT b)
  | .node _ a => leadT a
  | .wrap _ a _ b => max (leadT a) (if minC a = 0 then leadT b else 0)
  | _ => 0
def maxT : Gr → Nat
  | .call g => rankT g
  | .seq a b => max (maxT a) (maxT b)
  | .ite _ a b => max (maxT a) (maxT b)
  | .node _ a => maxT a
  | .wrap _ a _ b => max (maxT a) (maxT b)
  | _ => 0
theorem leadT_le (b : Gr) : leadT b ≤ maxT b := by
  induction b with
  | seq a b ha hb => simp only [leadT, maxT]; split <;> omega
  | ite c a b ha hb => simp only [leadT, maxT]; omega
  | node k a ha => exact ha
  | wrap k a c b ha hb => simp only [leadT, maxT]; split <;> omega
  | _ => exact Nat.le_refl _
def strict : Cond → Bool
  | .go _ => false
  | c => !condK lNone [61] c
def okT : Bool → Gr → Bool
  | kn, .take => kn
  | kn, .call g => !needsTok g || kn
  | kn, .seq a b => okT kn a && okT false b
  | kn, .ite c a b => okT (kn || strict c) a && okT kn b
  | kn, .node _ a => okT kn a
  | kn, .wrap _ a c b => okT kn a && okT (strict c) b
  | _, _ => true
theorem tables4 (g : G) : leadT (body g) < rankT g ∧ maxT (body g) ≤ 11 ∧ okT (needsTok g) (body g) = true ∧ rankT g ≤ 11 := by cases g <;> decide

theorem strict_lt {toks : List Tok} {k : Nat} {c : Cond} (h : condA toks k c = true) (hs : strict c = true) : k < toks.length := by
  rcases Nat.lt_or_ge k toks.length with hl | hl
  · exact hl
  · have hk : (kindA toks k).data.toList = lNone := by rw [kindA, List.getElem?_eq_none hl]; rfl
    rw [condA, hk] at h
    cases c with
    | go m => cases hs
    | is m => simp [strict, condK] at hs h; exact absurd h hs
    | rel => simp [condK, relB, lNone] at h
    | sum => simp [condK, sumB, lNone] at h
    | prod => simp [condK, prodB, lNone] at h
    | set => simp [condK, lNone] at h
    | sign => simp [condK, lNone] at h

theorem totB (toks : List Tok) (n : Nat)
    (ih : ∀ g k, k ≤ toks.length → (needsTok g = true → k < toks.length) → 12 * (toks.length - k) + rankT g ≤ n → ∃ res, Ag toks n g k = some res) :
    ∀ b kn k, okT kn b = true → maxT b ≤ 11 → k ≤ toks.length → (kn = true → k < toks.length) → 12 * (toks.length - k) + leadT b ≤ n → ∃ res, Ab toks (Ag toks n) b k = some res := by
  intro b
  induction b with
  | need kd =>
    intro kn k _ _ _ _ _
    simp only [Ab]
    split
    · split <;> exact ⟨_, rfl⟩
    · exact ⟨_, rfl⟩
  | take =>
    intro kn k hok _ _ hkn _
    have hlt := hkn hok
    simp only [Ab, List.getElem?_eq_getElem hlt]
    exact ⟨_, rfl⟩
  | call g =>
    intro kn k hok _ hk hkn hn
    refine ih g k hk (fun hg => hkn ?_) hn
    simpa [okT, hg] using hok
  | seq a b iha ihb =>
    intro kn k hok hm hk hkn hn
    simp only [okT, Bool.and_eq_true] at hok
    simp only [maxT] at hm
    simp only [leadT] at hn
    obtain ⟨r, hr⟩ := iha kn k hok.1 (by omega) hk hkn (by omega)
    simp only [Ab, hr]
    cases r with
    | fail j => exact ⟨_, rfl⟩
    | ok l j =>
      have fa := rowsB toks _ (rowsG toks n) a k l j hr
      have h1 := fa.ge; have h2 := fa.le hk; have hle := leadT_le b
      have hb : 12 * (toks.length - j) + leadT b ≤ n := by
        by_cases h0 : minC a = 0
        · rw [if_pos h0] at hn; omega
        · omega
      obtain ⟨r2, hr2⟩ := ihb false j hok.2 (by omega) h2 (fun h => by cases h) hb
      simp only [hr2]
      cases r2 <;> exact ⟨_, rfl⟩
  | ite c a b iha ihb =>
    intro kn k hok hm hk hkn hn
    simp only [okT, Bool.and_eq_true] at hok
    simp only [maxT] at hm
    simp only [leadT] at hn
    simp only [Ab]
    split
    · rename_i hc
      refine iha _ k hok.1 (by omega) hk (fun h => ?_) (by omega)
      rcases Bool.or_eq_true_iff.1 h with h | h
      · exact hkn h
      · exact strict_lt hc h
    · exact ihb _ k hok.2 (by omega) hk hkn (by omega)
  | skip => intro kn k _ _ _ _ _; exact ⟨_, rfl⟩
  | node kd a iha =>
    intro kn k hok hm hk hkn hn
    obtain ⟨r, hr⟩ := iha kn k hok hm hk hkn hn
    simp only [Ab, hr]
    cases r <;> exact ⟨_, rfl⟩
  | wrap kd a c b iha ihb =>
    intro kn k hok hm hk hkn hn
    simp only [okT, Bool.and_eq_true] at hok
    simp only [maxT] at hm
    simp only [leadT] at hn
    obtain ⟨r, hr⟩ := iha kn k hok.1 (by omega) hk hkn (by omega)
    simp only [Ab, hr]
    cases r with
    | fail j => exact ⟨_, rfl⟩
    | ok l j =>
      have fa := rowsB toks _ (rowsG toks n) a k l j hr
      have h1 := fa.ge; have h2 := fa.le hk; have hle := leadT_le b
      have hb : 12 * (toks.length - j) + leadT b ≤ n := by
        by_cases h0 : minC a = 0
        · rw [if_pos h0] at hn; omega
        · omega
      simp only
      split
      · rename_i hc
        obtain ⟨r2, hr2⟩ := ihb _ j hok.2 (by omega) h2 (fun h => strict_lt hc h) hb
        simp only [hr2]
        cases r2 <;> exact ⟨_, rfl⟩
      · exact ⟨_, rfl⟩

theorem totG (toks : List Tok) (n : Nat) : ∀ g k, k ≤ toks.length → (needsTok g = true → k < toks.length) → 12 * (toks.length - k) + rankT g ≤ n → ∃ res, Ag toks n g k = some res := by
  induction n with
  | zero => intro g k _ _ h; have := (tables4 g).1; omega
  | succ n ih =>
    intro g k hk hg hn
    have ht := tables4 g
    exact totB toks n ih (body g) (needsTok g) k ht.2.2.1 ht.2.1 hk hg (by omega)

/-- The bound on the calls within each other that serves every text. -/
def fuelT : Nat := 7300
/-- What the grammar makes of a row of tokens. -/
def parseT (toks : List Tok) : Option Res := Ag toks fuelT .program 0
theorem parseT_some (toks : List Tok) (h : toks.length ≤ 601) : ∃ res, parseT toks = some res := totG toks fuelT .program 0 (Nat.zero_le _) (fun h => by cases h) (by show 12 * (toks.length - 0) + 3 ≤ 7300; omega)

end Go.Proofs.YtdaneedflpfeaaaDoor
