import Derived.Test.YtdaneedflpfeaabGreatDoorSim
namespace Go.Proofs.YtdaneedflpfeaabGreatDoor
set_option maxRecDepth 100000
open Go.RowKit

/-! ## The scanner once more, so that it can be computed -/
def runF (f : Int → Bool) (s : ByteArray) : Nat → Nat → Nat
  | 0, i => i
  | n + 1, i => if decide (i < s.size) && f (bt s i) then runF f s n (i + 1) else i
theorem runE_F (f : Int → Bool) (s : ByteArray) : ∀ n i, s.size ≤ n + i → runE f s i = runF f s n i := by
  intro n
  induction n with
  | zero => intro i h; rw [runE_no (fun g => by omega)]; rfl
  | succ n ih =>
    intro i h
    rw [runF]
    by_cases hi : i < s.size
    · cases hf : f (bt s i) with
      | true => rw [runE_yes hi hf, ih (i + 1) (by omega)]; simp [hi]
      | false => rw [runE_no (fun _ => hf)]; simp
    · rw [runE_no (fun g => absurd g hi)]; simp [hi]
def closeF (s : ByteArray) : Nat → Nat → Option Nat
  | 0, _ => none
  | n + 1, i => if i < s.size then (if pairB s i 42 47 then some (i + 2) else closeF s n (i + 1)) else none
theorem closeE_F (s : ByteArray) : ∀ n i, s.size ≤ n + i → closeE s i = closeF s n i := by
  intro n
  induction n with
  | zero => intro i h; rw [closeE, dif_neg (by omega)]; rfl
  | succ n ih =>
    intro i h
    rw [closeE, closeF]
    by_cases hi : i < s.size
    · rw [dif_pos hi, if_pos hi, ih (i + 1) (by omega)]
    · rw [dif_neg hi, if_neg hi]
def pieceF (s : ByteArray) (i : Nat) : Nat :=
  if s.size ≤ i then i else if blankB (bt s i) then i + 1 else if pairB s i 47 47 then runF noLf s s.size i else if pairB s i 47 42 then (closeF s s.size (i + 2)).getD i else i
theorem pieceE_F (s : ByteArray) (i : Nat) : pieceE s i = pieceF s i := by
  unfold pieceE pieceF commentE
  rw [runE_F noLf s s.size i (by omega), closeE_F s s.size (i + 2) (by omega)]
def aheadF (s : ByteArray) : Nat → Nat → Nat
  | 0, i => i
  | n + 1, i => if i < pieceF s i then aheadF s n (pieceF s i) else i
theorem aheadE_F (s : ByteArray) : ∀ n i, s.size ≤ n + i → aheadE s i = aheadF s n i := by
  intro n
  induction n with
  | zero => intro i h; rw [aheadE_stop (by rw [pieceE_out (by omega)]; omega)]; rfl
  | succ n ih =>
    intro i h
    rw [aheadF, ← pieceE_F]
    by_cases hi : i < pieceE s i
    · rw [if_pos hi, aheadE_go hi, ih _ (by omega)]
    · rw [if_neg hi, aheadE_stop hi]
def longF (s : ByteArray) (i : Nat) : Bool := decide (i + 2 ≤ s.size) && isLong (s.extract i (i + 2)).data.toList
def signF (s : ByteArray) (p : Nat) : Nat := if pairB s p 47 42 then p else if longF s p then p + 2 else if shortB (bt s p) then p + 1 else p
def tokenF (s : ByteArray) (p : Nat) : Nat :=
  if s.size ≤ p then p else if letterB (bt s p) then runF wordB s s.size p else if digitB (bt s p) then runF digitB s s.size p else signF s p
theorem tokenE_F (s : ByteArray) (p : Nat) : tokenE s p = tokenF s p := by
  unfold tokenE tokenF signE signF longB longF
  rw [runE_F wordB s s.size p (by omega), runE_F digitB s s.size p (by omega), Go.ByteArray.toList_eq]
def kindF (t : ByteArray) : ByteArray :=
  if t.data.toList.isEmpty then kNone else if isTy t.data.toList then kType else if isKw t.data.toList then t else if letterB (bt t 0) then kName else if digitB (bt t 0) then kNumber else t
theorem kindB_F (t : ByteArray) : kindB t = kindF t := by unfold kindB kindF; rw [Go.ByteArray.toList_eq]
def scanF (s : ByteArray) : Nat → Nat → List Tok
  | 0, _ => []
  | n + 1, i =>
    let p := aheadF s s.size i
    let e := tokenF s p
    if p < e then ⟨kindF (s.extract p e), s.extract i e, p⟩ :: scanF s n e else [⟨if p < s.size then kNone else kEnd, s.extract i p, p⟩]
theorem scanL_F (s : ByteArray) : ∀ n i, i ≤ s.size → s.size < n + i → scanL s i = scanF s n i := by
  intro n
  induction n with
  | zero => intro i h1 h2; omega
  | succ n ih =>
    intro i h1 h2
    have ha := aheadE_bd s i h1
    have ht := tokenE_bd s _ ha.2
    rw [scanF, ← aheadE_F s s.size i (by omega), ← tokenE_F]
    by_cases h : aheadE s i < tokenE s (aheadE s i)
    · simp only [if_pos h]
      rw [scanL_go h1 rfl rfl h, kindB_F, ih _ ht.2 (by omega)]
    · simp only [if_neg h]
      rw [scanL_stop rfl h]
def scanT (s : ByteArray) : List Tok := scanF s (s.size + 1) 0
theorem scanL_T (s : ByteArray) : scanL s 0 = scanT s := scanL_F s _ 0 (Nat.zero_le _) (by omega)

end Go.Proofs.YtdaneedflpfeaabGreatDoor
