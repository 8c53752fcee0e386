import Derived.Test.YtdaneedflpfeaaaKeepB
namespace Go.Proofs.Ytdaneedflpfeaaa
set_option maxRecDepth 100000
open Go.RowKit

/-! ## A text's tokens hang on what follows alone -/
/-- B is what stands in s from N on. -/
structure Suf (s B : ByteArray) (N : Nat) : Prop where
  size : s.size = N + B.size
  at_ : s.data.toList.drop N = B.data.toList
theorem ext_mkK (s : ByteArray) (a b : Nat) : s.extract a b = mk ((s.data.toList.drop a).take (b - a)) := by
  apply str_eq
  rw [Go.Lib.extract_toList, mk_toList]
theorem Suf.bt {s B : ByteArray} {N : Nat} (h : Suf s B N) (j : Nat) : bt s (N + j) = bt B j := by
  have hs := h.size
  by_cases hj : j < B.size
  · rw [bt_in hj, bt_in (by omega)]
    have e : s.data.toList[N + j]? = B.data.toList[j]? := by rw [← h.at_, List.getElem?_drop]
    have h1 : s.data.toList[N + j]? = some (s[N + j]'(by omega)) := by
      rw [List.getElem?_eq_getElem (by show N + j < s.size; omega)]; rfl
    have h2 : B.data.toList[j]? = some (B[j]'hj) := by
      rw [List.getElem?_eq_getElem (by show j < B.size; omega)]; rfl
    rw [h1, h2] at e
    injection e with e
    rw [e]
  · rw [bt_out (by omega), bt_out (by omega)]
theorem Suf.ext {s B : ByteArray} {N : Nat} (h : Suf s B N) (a b : Nat) : s.extract (N + a) (N + b) = B.extract a b := by
  rw [ext_mkK, ext_mkK, ← List.drop_drop, h.at_, show N + b - (N + a) = b - a by omega]
theorem Suf.pair {s B : ByteArray} {N : Nat} (h : Suf s B N) (j : Nat) (a b : Int) : pairB s (N + j) a b = pairB B j a b := by
  unfold pairB
  rw [h.bt j, Nat.add_assoc, h.bt (j + 1)]
theorem Suf.run {s B : ByteArray} {N : Nat} (h : Suf s B N) (f : Int → Bool) (j : Nat) : runE f s (N + j) = N + runE f B j := by
  have hs := h.size
  rw [runE_F f s s.size (N + j) (by omega), runE_F f B s.size j (by omega)]
  generalize s.size = n
  induction n generalizing j with
  | zero => rfl
  | succ n ih =>
    rw [runF, runF, h.bt j]
    have e : decide (N + j < s.size) = decide (j < B.size) := by
      by_cases q : j < B.size
      · rw [decide_eq_true q, decide_eq_true (by omega)]
      · rw [decide_eq_false q, decide_eq_false (by omega)]
    rw [e]
    split
    · rw [Nat.add_assoc]; exact ih (j + 1)
    · rfl
theorem Suf.close {s B : ByteArray} {N : Nat} (h : Suf s B N) (j : Nat) : closeE s (N + j) = (closeE B j).map (N + ·) := by
  have hs := h.size
  rw [closeE_F s s.size (N + j) (by omega), closeE_F B s.size j (by omega)]
  generalize s.size = n
  induction n generalizing j with
  | zero => rfl
  | succ n ih =>
    rw [closeF, closeF, h.pair]
    by_cases q : j < B.size
    · rw [if_pos q, if_pos (by omega)]
      split
      · rfl
      · rw [Nat.add_assoc]; exact ih (j + 1)
    · rw [if_neg q, if_neg (by omega)]; rfl
theorem Suf.piece {s B : ByteArray} {N : Nat} (h : Suf s B N) (j : Nat) : pieceE s (N + j) = N + pieceE B j := by
  have hs := h.size
  unfold pieceE commentE
  rw [h.bt, h.pair, h.pair, h.run, Nat.add_assoc N j 2, h.close]
  by_cases q : B.size ≤ j
  · rw [if_pos q, if_pos (by omega)]
  · rw [if_neg q, if_neg (by omega)]
    split
    · omega
    split
    · rfl
    split
    · cases closeE B (j + 2) <;> rfl
    · rfl
theorem Suf.ahead {s B : ByteArray} {N : Nat} (h : Suf s B N) (j : Nat) : aheadE s (N + j) = N + aheadE B j := by
  have hs := h.size
  rw [aheadE_F s s.size (N + j) (by omega), aheadE_F B s.size j (by omega)]
  generalize s.size = n
  induction n generalizing j with
  | zero => rfl
  | succ n ih =>
    rw [aheadF, aheadF, ← pieceE_F, ← pieceE_F, h.piece]
    by_cases q : j < pieceE B j
    · rw [if_pos q, if_pos (by omega)]; exact ih _
    · rw [if_neg q, if_neg (by omega)]
theorem Suf.token {s B : ByteArray} {N : Nat} (h : Suf s B N) (j : Nat) : tokenE s (N + j) = N + tokenE B j := by
  have hs := h.size
  unfold tokenE signE longB
  rw [h.bt, h.pair, h.run, h.run, Nat.add_assoc N j 2, h.ext]
  have e : decide (N + (j + 2) ≤ s.size) = decide (j + 2 ≤ B.size) := by
    by_cases q : j + 2 ≤ B.size
    · rw [decide_eq_true q, decide_eq_true (by omega)]
    · rw [decide_eq_false q, decide_eq_false (by omega)]
  rw [e]
  by_cases q : B.size ≤ j
  · rw [if_pos q, if_pos (by omega)]
  · rw [if_neg q, if_neg (by omega)]
    split
    · rfl
    split
    · rfl
    split
    · rfl
    split
    · rfl
    split
    · rfl
    · rfl
def movT (N : Nat) (t : Tok) : Tok := { t with place := N + t.place }
theorem Suf.scan {s B : ByteArray} {N : Nat} (h : Suf s B N) : ∀ (n j : Nat), B.size - j ≤ n → j ≤ B.size → scanL s (N + j) = (scanL B j).map (movT N) := by
  have hs := h.size
  intro n
  induction n with
  | zero =>
    intro j h1 h2
    have hj : j = B.size := by omega
    have ha := aheadE_bd B j h2
    have ea : aheadE B j = j := by omega
    have ht := tokenE_bd B j h2
    have et : ¬ j < tokenE B j := by omega
    rw [scanL_stop (h.ahead j) (by rw [h.token, ea]; omega), scanL_stop rfl (by rw [ea]; exact et), ea, h.ext]
    simp only [List.map_cons, List.map_nil, movT]
    rw [if_neg (by omega), if_neg (by omega)]
  | succ n ih =>
    intro j h1 h2
    have ha := aheadE_bd B j h2
    have ht := tokenE_bd B _ ha.2
    by_cases q : aheadE B j < tokenE B (aheadE B j)
    · rw [scanL_go (by omega) (h.ahead j) (h.token _) (by omega), scanL_go h2 rfl rfl q, h.ext, h.ext, List.map_cons, ih _ (by omega) ht.2]
      rfl
    · rw [scanL_stop (h.ahead j) (by rw [h.token]; omega), scanL_stop rfl q, h.ext]
      simp only [List.map_cons, List.map_nil, movT]
      by_cases r : aheadE B j < B.size
      · rw [if_pos r, if_pos (by omega)]
      · rw [if_neg r, if_neg (by omega)]
/-- A word from p on ends at e. -/
theorem run_to (f : Int → Bool) (s : ByteArray) : ∀ (n p e : Nat), e - p ≤ n → p ≤ e → e ≤ s.size → (∀ j, p ≤ j → j < e → f (bt s j) = true) → (e < s.size → f (bt s e) = false) → runE f s p = e := by
  intro n
  induction n with
  | zero =>
    intro p e h1 h2 h3 h4 h5
    have : p = e := by omega
    subst this
    exact runE_no h5
  | succ n ih =>
    intro p e h1 h2 h3 h4 h5
    by_cases q : p = e
    · subst q; exact runE_no h5
    · rw [runE_yes (by omega) (h4 p (Nat.le_refl _) (by omega))]
      exact ih (p + 1) e (by omega) (by omega) h3 (fun j a b => h4 j (by omega) b) h5

end Go.Proofs.Ytdaneedflpfeaaa
