import Derived.Test.YtdaneedflpfeaabGreatDoorKnoS
namespace Go.Proofs.YtdaneedflpfeaabGreatDoor
set_option maxRecDepth 100000
open Go.RowKit

/-! ## Texts that are no programs, or just are -/
/-- What the calls tell of a text and its error. -/
def RefR (s : ByteArray) (c p : Int) : Prop := (c ≠ 0 ∧ outT s = .err c p) ∨ (c = 0 ∧ p = 0 ∧ ∃ L, outT s = .ok L ∧ writtenL L ≠ [] ∧ ∀ t c' p', PatchOut s ⟨#[]⟩ t c' p' → t = s ∧ c' = 0 ∧ p' = 0)
def refB (s : ByteArray) : Option (Int × Int) := match outF s with
  | .err c p => some (c, p)
  | .ok L => match writtenL L with
    | [] => none
    | _ :: _ => match patF s ⟨#[]⟩ with
      | (t, c, p) => if decide (t.data.toList = s.data.toList) && decide (c = 0) && decide (p = 0) then some (0, 0) else none
theorem refR_of {s : ByteArray} {c p : Int} (h : refB s = some (c, p)) : RefR s c p := by
  unfold refB at h
  cases ho : outF s with
  | err c' p' =>
    rw [ho] at h
    simp only [Option.some.injEq, Prod.mk.injEq] at h
    obtain ⟨rfl, rfl⟩ := h
    rw [← outT_F] at ho
    exact .inl ⟨(outT_ne ho).1, ho⟩
  | ok L =>
    rw [ho] at h
    simp only at h
    cases hw : writtenL L with
    | nil => rw [hw] at h; cases h
    | cons x l =>
      rw [hw] at h
      simp only at h
      split at h
      · next hc =>
        simp only [Option.some.injEq, Prod.mk.injEq] at h
        obtain ⟨rfl, rfl⟩ := h
        simp only [Bool.and_eq_true, decide_eq_true_eq] at hc
        refine .inr ⟨rfl, rfl, L, by rw [outT_F]; exact ho, by rw [hw]; simp, fun t c' p' hp => ?_⟩
        rw [patF_of hp] at hc
        exact ⟨ByteArray.ext (Array.toList_inj.mp hc.1.1), hc.1.2, hc.2⟩
      · cases h

/-! ## The text that is as long as may be -/
def lgL : List UInt8 := [118, 111, 105, 100, 32, 102, 40, 41, 123, 125] ++ List.replicate 590 32
def lgB : ByteArray := mk lgL
theorem lgB_size : lgB.size = 600 := by unfold lgB; rw [mk_size]; kernel_rfl
theorem lgB_at (i : Nat) (hi : i < lgB.size) (h : 10 ≤ i) : bt lgB i = 32 := by
  rw [bt_in hi]
  have h2 : i < lgL.length := by have := lgB_size; unfold lgB at this; rw [mk_size] at this; unfold lgB at hi; rw [mk_size] at hi; exact hi
  show ((lgL[i]'h2).toNat : Int) = 32
  have e2 : lgL[i]'h2 = 32 := by
    unfold lgL at h2 ⊢
    rw [List.getElem_append_right (by simpa using h), List.getElem_replicate]
  rw [e2]; rfl
theorem ahead_blank (s : ByteArray) (h : ∀ i, i < s.size → 10 ≤ i → bt s i = 32) : ∀ n i, s.size - i ≤ n → 10 ≤ i → i ≤ s.size → aheadE s i = s.size := by
  intro n
  induction n with
  | zero =>
    intro i h1 h2 h3
    have e : i = s.size := by omega
    rw [e, aheadE_stop (by rw [pieceE_out (Nat.le_refl _)]; omega)]
  | succ n ih =>
    intro i h1 h2 h3
    by_cases hi : i < s.size
    · have hp : pieceE s i = i + 1 := by
        unfold pieceE
        rw [if_neg (by omega), if_pos (by rw [h i hi h2]; rfl)]
      rw [aheadE_go (by omega), hp]
      exact ih (i + 1) (by omega) (by omega) (by omega)
    · have e : i = s.size := by omega
      rw [e, aheadE_stop (by rw [pieceE_out (Nat.le_refl _)]; omega)]
theorem scan_step {s : ByteArray} {i p e : Nat} {k t : List UInt8} (hi : i ≤ s.size) (hp : aheadF s s.size i = p) (he : tokenF s p = e) (h : p < e) (hk : kindF (mk ((s.data.toList.drop p).take (e - p))) = mk k) (ht : (s.data.toList.drop i).take (e - i) = t) : scanL s i = ⟨mk k, mk t, p⟩ :: scanL s e := by
  have hp' : aheadE s i = p := (aheadE_F s s.size i (by omega)).trans hp
  have he' : tokenE s p = e := (tokenE_F s p).trans he
  rw [scanL_go hi hp' he' h, kindB_F, ext_mk, ext_mk, hk, ht]
theorem lg_scan : scanL lgB 0 = [⟨kType, mk [118, 111, 105, 100], 0⟩, ⟨kName, mk [32, 102], 5⟩, ⟨mk [40], mk [40], 6⟩, ⟨mk [41], mk [41], 7⟩, ⟨mk [123], mk [123], 8⟩, ⟨mk [125], mk [125], 9⟩, ⟨kEnd, mk (List.replicate 590 32), 600⟩] := by
  have sz := lgB_size
  rw [scan_step (s := lgB) (i := 0) (p := 0) (e := 4) (k := kType.data.toList) (t := [118, 111, 105, 100]) (by omega) (by kernel_rfl) (by kernel_rfl) (by omega) (by kernel_rfl) (by kernel_rfl),
    scan_step (s := lgB) (i := 4) (p := 5) (e := 6) (k := kName.data.toList) (t := [32, 102]) (by omega) (by kernel_rfl) (by kernel_rfl) (by omega) (by kernel_rfl) (by kernel_rfl),
    scan_step (s := lgB) (i := 6) (p := 6) (e := 7) (k := [40]) (t := [40]) (by omega) (by kernel_rfl) (by kernel_rfl) (by omega) (by kernel_rfl) (by kernel_rfl),
    scan_step (s := lgB) (i := 7) (p := 7) (e := 8) (k := [41]) (t := [41]) (by omega) (by kernel_rfl) (by kernel_rfl) (by omega) (by kernel_rfl) (by kernel_rfl),
    scan_step (s := lgB) (i := 8) (p := 8) (e := 9) (k := [123]) (t := [123]) (by omega) (by kernel_rfl) (by kernel_rfl) (by omega) (by kernel_rfl) (by kernel_rfl),
    scan_step (s := lgB) (i := 9) (p := 9) (e := 10) (k := [125]) (t := [125]) (by omega) (by kernel_rfl) (by kernel_rfl) (by omega) (by kernel_rfl) (by kernel_rfl)]
  have ha : aheadE lgB 10 = 600 := by rw [ahead_blank lgB lgB_at _ 10 (Nat.le_refl _) (Nat.le_refl _) (by omega), sz]
  rw [scanL_stop ha (by unfold tokenE; rw [if_pos (by omega)]; omega), if_neg (by omega), ext_mk]
  have e : List.take (600 - 10) (List.drop 10 lgB.data.toList) = List.replicate 590 32 := by kernel_rfl
  rw [e]
  rfl
def lgT (t : ByteArray) : List Tok := [⟨kType, mk [118, 111, 105, 100], 0⟩, ⟨kName, mk [32, 102], 5⟩, ⟨mk [40], mk [40], 6⟩, ⟨mk [41], mk [41], 7⟩, ⟨mk [123], mk [123], 8⟩, ⟨mk [125], mk [125], 9⟩, ⟨kEnd, t, 600⟩]
def lgR (t : ByteArray) : List Rw := nodeR kProgram [⟨0, true, ⟨#[102, 117, 110, 99, 116, 105, 111, 110]⟩⟩, ⟨1, false, mk [118, 111, 105, 100]⟩, ⟨1, false, mk [32, 102]⟩, ⟨1, false, mk [40]⟩, ⟨1, false, mk [41]⟩, ⟨1, true, ⟨#[98, 108, 111, 99, 107]⟩⟩, ⟨2, false, mk [123]⟩, ⟨2, false, mk [125]⟩, ⟨0, false, t⟩]
theorem lg_parse (t : ByteArray) : parseT (lgT t) = some (.ok (lgR t) 7) := by kernel_rfl
theorem lg_out : outT lgB = .ok ((lgR (mk (List.replicate 590 32))).map (toNd 0)) := by
  unfold outT
  rw [if_neg (by rw [lgB_size]; omega), lg_scan]
  have h := lg_parse (mk (List.replicate 590 32))
  unfold lgT at h
  rw [h]
  simp only
  rw [if_neg (by decide +kernel), if_neg (by decide +kernel)]
theorem patch_empty {a : ByteArray} {L : List Nd} (h : outT a = .ok L) (ht : mk (leafB L) = a) {t : ByteArray} {c p : Int} (ho : PatchOut a ⟨#[]⟩ t c p) : t = a ∧ c = 0 ∧ p = 0 := by
  have hs : scrN ⟨#[]⟩ L 0 1 = .ok L := by rw [scrN, dif_neg (by decide)]
  cases ho with
  | err c p h' => rw [h] at h'; cases h'
  | long n h' hd => exact absurd hd (by decide)
  | bad n k h' hd hr => rw [h] at h'; cases h'; rw [hs] at hr; cases hr
  | none n K h' hd hr ht' => rw [h] at h'; cases h'; rw [hs] at hr; cases hr; rw [ht] at ht'; exact absurd h ht'
  | ok n K h' hd hr ht' => rw [h] at h'; cases h'; rw [hs] at hr; cases hr; exact ⟨ht, rfl, rfl⟩
theorem lg_head : (writtenL ((lgR (mk (List.replicate 590 32))).map (toNd 0))).head? = some 40 := by kernel_rfl
theorem lg_leaf : leafB ((lgR (mk (List.replicate 590 32))).map (toNd 0)) = lgL := by kernel_rfl
theorem lg_ref : RefR lgB 0 0 := by
  refine .inr ⟨rfl, rfl, _, lg_out, fun h => ?_, fun t c' p' hp => patch_empty lg_out ?_ hp⟩
  · have h2 := lg_head
    rw [h] at h2; cases h2
  · rw [lg_leaf]; rfl
def dpL : List UInt8 := [118, 111, 105, 100, 32, 102, 40, 41, 123] ++ List.replicate 17 40 ++ [97] ++ List.replicate 17 41
def mnL : List UInt8 := [118, 111, 105, 100, 32, 102, 40, 41, 123] ++ List.replicate 34 59
def dpB : ByteArray := mk dpL
def mnB : ByteArray := mk mnL
def flS0 : ByteArray := lgB
def flS1 : ByteArray := lgB ++ ⟨#[32]⟩
def flS2 : ByteArray := dpB ++ ⟨#[59, 125]⟩
def flS3 : ByteArray := dpB.extract 0 9 ++ ⟨#[40]⟩ ++ dpB.extract 9 dpB.size ++ ⟨#[41, 59, 125]⟩
def flS4 : ByteArray := mnB ++ ⟨#[59, 125]⟩
def flS5 : ByteArray := mnB ++ ⟨#[59, 59, 125]⟩
def flS6 : ByteArray := mnB ++ ⟨#[97, 59, 125]⟩
theorem fl0 : RefR flS0 0 0 := lg_ref
theorem fl1 : RefR flS1 1 0 := by
  refine .inl ⟨by decide, ?_⟩
  unfold outT
  rw [if_pos]
  show 600 < (lgB ++ ⟨#[32]⟩).size
  rw [ByteArray.size_append, lgB_size]
  decide
theorem fl2 : RefR flS2 0 0 := by
  have e : flS2 = mk [118, 111, 105, 100, 32, 102, 40, 41, 123, 40, 40, 40, 40, 40, 40, 40, 40, 40, 40, 40, 40, 40, 40, 40, 40, 40, 97, 41, 41, 41, 41, 41, 41, 41, 41, 41, 41, 41, 41, 41, 41, 41, 41, 41, 59, 125] := by show mk dpL ++ mk [59, 125] = _; rw [mk_append]; kernel_rfl
  rw [e]
  exact refR_of (by kernel_rfl)
theorem fl4 : RefR flS4 0 0 := by
  have e : flS4 = mk [118, 111, 105, 100, 32, 102, 40, 41, 123, 59, 59, 59, 59, 59, 59, 59, 59, 59, 59, 59, 59, 59, 59, 59, 59, 59, 59, 59, 59, 59, 59, 59, 59, 59, 59, 59, 59, 59, 59, 59, 59, 59, 59, 59, 125] := by show mk mnL ++ mk [59, 125] = _; rw [mk_append]; kernel_rfl
  rw [e]
  exact refR_of (by kernel_rfl)
theorem fl5 : RefR flS5 4 0 := by
  have e : flS5 = mk [118, 111, 105, 100, 32, 102, 40, 41, 123, 59, 59, 59, 59, 59, 59, 59, 59, 59, 59, 59, 59, 59, 59, 59, 59, 59, 59, 59, 59, 59, 59, 59, 59, 59, 59, 59, 59, 59, 59, 59, 59, 59, 59, 59, 59, 125] := by show mk mnL ++ mk [59, 59, 125] = _; rw [mk_append]; kernel_rfl
  rw [e]
  exact refR_of (by kernel_rfl)
theorem fl6 : RefR flS6 4 0 := by
  have e : flS6 = mk [118, 111, 105, 100, 32, 102, 40, 41, 123, 59, 59, 59, 59, 59, 59, 59, 59, 59, 59, 59, 59, 59, 59, 59, 59, 59, 59, 59, 59, 59, 59, 59, 59, 59, 59, 59, 59, 59, 59, 59, 59, 59, 59, 97, 59, 125] := by show mk mnL ++ mk [97, 59, 125] = _; rw [mk_append]; kernel_rfl
  rw [e]
  exact refR_of (by kernel_rfl)
theorem fl3 : RefR flS3 3 0 := by
  have e : flS3 = mk [118, 111, 105, 100, 32, 102, 40, 41, 123, 40, 40, 40, 40, 40, 40, 40, 40, 40, 40, 40, 40, 40, 40, 40, 40, 40, 40, 97, 41, 41, 41, 41, 41, 41, 41, 41, 41, 41, 41, 41, 41, 41, 41, 41, 41, 41, 59, 125] := by
    unfold flS3
    rw [ext_mk, ext_mk]
    show mk _ ++ mk [40] ++ mk _ ++ mk [41, 59, 125] = _
    rw [mk_append, mk_append, mk_append]; kernel_rfl
  rw [e]
  exact refR_of (by kernel_rfl)
def flS7 : ByteArray := ⟨#[120]⟩
theorem fl7 : RefR flS7 2 0 := refR_of (by kernel_rfl)
def flS8 : ByteArray := ⟨#[105, 110, 116]⟩
theorem fl8 : RefR flS8 2 3 := refR_of (by kernel_rfl)
def flS9 : ByteArray := ⟨#[105, 110, 116, 32, 105, 110, 116]⟩
theorem fl9 : RefR flS9 2 4 := refR_of (by kernel_rfl)
def flS10 : ByteArray := ⟨#[105, 110, 116, 32, 102]⟩
theorem fl10 : RefR flS10 2 5 := refR_of (by kernel_rfl)
def flS11 : ByteArray := ⟨#[105, 110, 116, 32, 102, 59]⟩
theorem fl11 : RefR flS11 2 5 := refR_of (by kernel_rfl)
def flS12 : ByteArray := ⟨#[105, 110, 116, 32, 102, 40]⟩
theorem fl12 : RefR flS12 2 6 := refR_of (by kernel_rfl)
def flS13 : ByteArray := ⟨#[105, 110, 116, 32, 102, 40, 97, 41]⟩
theorem fl13 : RefR flS13 2 6 := refR_of (by kernel_rfl)
def flS14 : ByteArray := ⟨#[105, 110, 116, 32, 102, 40, 105, 110, 116, 41]⟩
theorem fl14 : RefR flS14 2 9 := refR_of (by kernel_rfl)
def flS15 : ByteArray := ⟨#[105, 110, 116, 32, 102, 40, 105, 110, 116, 32, 97, 44, 41]⟩
theorem fl15 : RefR flS15 2 12 := refR_of (by kernel_rfl)
def flS16 : ByteArray := ⟨#[105, 110, 116, 32, 102, 40, 105, 110, 116, 32, 97, 32, 105, 110, 116, 32, 98, 41]⟩
theorem fl16 : RefR flS16 2 12 := refR_of (by kernel_rfl)
def flS17 : ByteArray := ⟨#[105, 110, 116, 32, 102, 40, 41, 123]⟩
theorem fl17 : RefR flS17 2 8 := refR_of (by kernel_rfl)
def flS18 : ByteArray := ⟨#[105, 110, 116, 32, 102, 40, 41, 123, 125, 125]⟩
theorem fl18 : RefR flS18 2 9 := refR_of (by kernel_rfl)
def flS19 : ByteArray := ⟨#[105, 110, 116, 32, 102, 40, 41]⟩
theorem fl19 : RefR flS19 2 7 := refR_of (by kernel_rfl)
def flS20 : ByteArray := ⟨#[118, 111, 105, 100, 32, 102, 40, 41, 123, 101, 108, 115, 101, 59, 125]⟩
theorem fl20 : RefR flS20 2 9 := refR_of (by kernel_rfl)
def flS21 : ByteArray := ⟨#[118, 111, 105, 100, 32, 102, 40, 41, 123, 105, 102, 32, 97, 59, 125]⟩
theorem fl21 : RefR flS21 2 12 := refR_of (by kernel_rfl)
def flS22 : ByteArray := ⟨#[118, 111, 105, 100, 32, 102, 40, 41, 123, 105, 102, 40, 97, 41, 125]⟩
theorem fl22 : RefR flS22 2 14 := refR_of (by kernel_rfl)
def flS23 : ByteArray := ⟨#[118, 111, 105, 100, 32, 102, 40, 41, 123, 105, 102, 40, 97, 41, 123, 125, 101, 108, 115, 101, 125]⟩
theorem fl23 : RefR flS23 2 20 := refR_of (by kernel_rfl)
def flS24 : ByteArray := ⟨#[118, 111, 105, 100, 32, 102, 40, 41, 123, 114, 101, 116, 117, 114, 110, 32, 114, 101, 116, 117, 114, 110, 59, 125]⟩
theorem fl24 : RefR flS24 2 16 := refR_of (by kernel_rfl)
def flS25 : ByteArray := ⟨#[118, 111, 105, 100, 32, 102, 40, 41, 123, 105, 110, 116, 59, 125]⟩
theorem fl25 : RefR flS25 2 12 := refR_of (by kernel_rfl)
def flS26 : ByteArray := ⟨#[118, 111, 105, 100, 32, 102, 40, 41, 123, 105, 110, 116, 32, 97, 61, 59, 125]⟩
theorem fl26 : RefR flS26 2 15 := refR_of (by kernel_rfl)
def flS27 : ByteArray := ⟨#[118, 111, 105, 100, 32, 102, 40, 41, 123, 105, 110, 116, 32, 97, 32, 98, 59, 125]⟩
theorem fl27 : RefR flS27 2 15 := refR_of (by kernel_rfl)
def flS28 : ByteArray := ⟨#[118, 111, 105, 100, 32, 102, 40, 41, 123, 97, 125]⟩
theorem fl28 : RefR flS28 2 10 := refR_of (by kernel_rfl)
def flS29 : ByteArray := ⟨#[118, 111, 105, 100, 32, 102, 40, 41, 123, 97, 32, 98, 59, 125]⟩
theorem fl29 : RefR flS29 2 11 := refR_of (by kernel_rfl)
def flS30 : ByteArray := ⟨#[118, 111, 105, 100, 32, 102, 40, 41, 123, 97, 43, 59, 125]⟩
theorem fl30 : RefR flS30 2 11 := refR_of (by kernel_rfl)
def flS31 : ByteArray := ⟨#[118, 111, 105, 100, 32, 102, 40, 41, 123, 97, 60, 98, 60, 99, 59, 125]⟩
theorem fl31 : RefR flS31 2 12 := refR_of (by kernel_rfl)
def flS32 : ByteArray := ⟨#[118, 111, 105, 100, 32, 102, 40, 41, 123, 97, 43, 98, 61, 99, 59, 125]⟩
theorem fl32 : RefR flS32 2 12 := refR_of (by kernel_rfl)
def flS33 : ByteArray := ⟨#[118, 111, 105, 100, 32, 102, 40, 41, 123, 49, 61, 97, 59, 125]⟩
theorem fl33 : RefR flS33 2 10 := refR_of (by kernel_rfl)
def flS34 : ByteArray := ⟨#[118, 111, 105, 100, 32, 102, 40, 41, 123, 103, 40, 59, 125]⟩
theorem fl34 : RefR flS34 2 11 := refR_of (by kernel_rfl)
def flS35 : ByteArray := ⟨#[118, 111, 105, 100, 32, 102, 40, 41, 123, 103, 40, 97, 44, 41, 59, 125]⟩
theorem fl35 : RefR flS35 2 13 := refR_of (by kernel_rfl)
def flS36 : ByteArray := ⟨#[118, 111, 105, 100, 32, 102, 40, 41, 123, 103, 40, 97, 32, 98, 41, 59, 125]⟩
theorem fl36 : RefR flS36 2 13 := refR_of (by kernel_rfl)
def flS37 : ByteArray := ⟨#[118, 111, 105, 100, 32, 102, 40, 41, 123, 40, 41, 59, 125]⟩
theorem fl37 : RefR flS37 2 10 := refR_of (by kernel_rfl)
def flS38 : ByteArray := ⟨#[118, 111, 105, 100, 32, 102, 40, 41, 123, 40, 97, 59, 125]⟩
theorem fl38 : RefR flS38 2 11 := refR_of (by kernel_rfl)
def flS39 : ByteArray := ⟨#[118, 111, 105, 100, 32, 102, 40, 41, 123, 97, 38, 98, 59, 125]⟩
theorem fl39 : RefR flS39 2 10 := refR_of (by kernel_rfl)
def flS40 : ByteArray := ⟨#[118, 111, 105, 100, 32, 102, 40, 41, 123, 97, 124, 98, 59, 125]⟩
theorem fl40 : RefR flS40 2 10 := refR_of (by kernel_rfl)
def flS41 : ByteArray := ⟨#[118, 111, 105, 100, 32, 102, 40, 41, 123, 43, 97, 59, 125]⟩
theorem fl41 : RefR flS41 2 9 := refR_of (by kernel_rfl)
def flS42 : ByteArray := ⟨#[118, 111, 105, 100, 32, 102, 40, 41, 123, 49, 97, 59, 125]⟩
theorem fl42 : RefR flS42 2 10 := refR_of (by kernel_rfl)
def flS43 : ByteArray := ⟨#[118, 111, 105, 100, 32, 102, 40, 41, 123, 97, 40, 49, 41, 40, 50, 41, 59, 125]⟩
theorem fl43 : RefR flS43 2 13 := refR_of (by kernel_rfl)
def flS44 : ByteArray := ⟨#[118, 111, 105, 100, 32, 102, 40, 41, 123, 47, 42, 125]⟩
theorem fl44 : RefR flS44 2 9 := refR_of (by kernel_rfl)
def flS45 : ByteArray := ⟨#[118, 111, 105, 100, 32, 102, 40, 41, 123, 47, 42, 47, 125]⟩
theorem fl45 : RefR flS45 2 9 := refR_of (by kernel_rfl)
def flS46 : ByteArray := ⟨#[118, 111, 105, 100, 32, 102, 40, 41, 123, 47, 47, 125]⟩
theorem fl46 : RefR flS46 2 12 := refR_of (by kernel_rfl)
def flS47 : ByteArray := ⟨#[118, 111, 105, 100, 32, 102, 40, 41, 123, 125, 128]⟩
theorem fl47 : RefR flS47 2 10 := refR_of (by kernel_rfl)
def flS48 : ByteArray := ⟨#[118, 111, 105, 100, 32, 102, 40, 41, 123, 125, 47, 47, 128]⟩
theorem fl48 : RefR flS48 0 0 := refR_of (by kernel_rfl)
def flS49 : ByteArray := ⟨#[118, 111, 105, 100, 32, 102, 40, 41, 123, 97, 0, 59, 125]⟩
theorem fl49 : RefR flS49 2 10 := refR_of (by kernel_rfl)
def flS50 : ByteArray := ⟨#[118, 111, 105, 100, 32, 102, 40, 41, 123, 64, 125]⟩
theorem fl50 : RefR flS50 2 9 := refR_of (by kernel_rfl)
def flS51 : ByteArray := ⟨#[118, 111, 105, 100, 32, 102, 40, 41, 123, 97, 61, 61, 98, 59, 125]⟩
theorem fl51 : RefR flS51 0 0 := refR_of (by kernel_rfl)
def flS52 : ByteArray := ⟨#[118, 111, 105, 100, 32, 102, 40, 41, 123, 97, 61, 32, 61, 98, 59, 125]⟩
theorem fl52 : RefR flS52 2 12 := refR_of (by kernel_rfl)
def flS53 : ByteArray := ⟨#[118, 111, 105, 100, 32, 102, 40, 41, 123, 33, 45, 33, 97, 59, 125]⟩
theorem fl53 : RefR flS53 0 0 := refR_of (by kernel_rfl)
def flS54 : ByteArray := ⟨#[118, 111, 105, 100, 32, 102, 40, 41, 123, 97, 45, 32, 45, 98, 59, 125]⟩
theorem fl54 : RefR flS54 0 0 := refR_of (by kernel_rfl)
def flS55 : ByteArray := ⟨#[118, 111, 105, 100, 32, 102, 40, 41, 123, 97, 45, 45, 98, 59, 125]⟩
theorem fl55 : RefR flS55 0 0 := refR_of (by kernel_rfl)
def flS56 : ByteArray := ⟨#[118, 111, 105, 100, 32, 102, 40, 41, 123, 105, 102, 40, 97, 41, 105, 102, 40, 98, 41, 59, 101, 108, 115, 101, 59, 125]⟩
theorem fl56 : RefR flS56 0 0 := refR_of (by kernel_rfl)
def fltS : Nat → ByteArray
  | 0 => flS0
  | 1 => flS1
  | 2 => flS2
  | 3 => flS3
  | 4 => flS4
  | 5 => flS5
  | 6 => flS6
  | 7 => flS7
  | 8 => flS8
  | 9 => flS9
  | 10 => flS10
  | 11 => flS11
  | 12 => flS12
  | 13 => flS13
  | 14 => flS14
  | 15 => flS15
  | 16 => flS16
  | 17 => flS17
  | 18 => flS18
  | 19 => flS19
  | 20 => flS20
  | 21 => flS21
  | 22 => flS22
  | 23 => flS23
  | 24 => flS24
  | 25 => flS25
  | 26 => flS26
  | 27 => flS27
  | 28 => flS28
  | 29 => flS29
  | 30 => flS30
  | 31 => flS31
  | 32 => flS32
  | 33 => flS33
  | 34 => flS34
  | 35 => flS35
  | 36 => flS36
  | 37 => flS37
  | 38 => flS38
  | 39 => flS39
  | 40 => flS40
  | 41 => flS41
  | 42 => flS42
  | 43 => flS43
  | 44 => flS44
  | 45 => flS45
  | 46 => flS46
  | 47 => flS47
  | 48 => flS48
  | 49 => flS49
  | 50 => flS50
  | 51 => flS51
  | 52 => flS52
  | 53 => flS53
  | 54 => flS54
  | 55 => flS55
  | _ => flS56
def fltE : Nat → Int
  | 0 => 0
  | 1 => 1
  | 2 => 0
  | 3 => 3
  | 4 => 0
  | 5 => 4
  | 6 => 4
  | 7 => 2
  | 8 => 2
  | 9 => 2
  | 10 => 2
  | 11 => 2
  | 12 => 2
  | 13 => 2
  | 14 => 2
  | 15 => 2
  | 16 => 2
  | 17 => 2
  | 18 => 2
  | 19 => 2
  | 20 => 2
  | 21 => 2
  | 22 => 2
  | 23 => 2
  | 24 => 2
  | 25 => 2
  | 26 => 2
  | 27 => 2
  | 28 => 2
  | 29 => 2
  | 30 => 2
  | 31 => 2
  | 32 => 2
  | 33 => 2
  | 34 => 2
  | 35 => 2
  | 36 => 2
  | 37 => 2
  | 38 => 2
  | 39 => 2
  | 40 => 2
  | 41 => 2
  | 42 => 2
  | 43 => 2
  | 44 => 2
  | 45 => 2
  | 46 => 2
  | 47 => 2
  | 48 => 0
  | 49 => 2
  | 50 => 2
  | 51 => 0
  | 52 => 2
  | 53 => 0
  | 54 => 0
  | 55 => 0
  | _ => 0
def fltP : Nat → Int
  | 0 => 0
  | 1 => 0
  | 2 => 0
  | 3 => 0
  | 4 => 0
  | 5 => 0
  | 6 => 0
  | 7 => 0
  | 8 => 3
  | 9 => 4
  | 10 => 5
  | 11 => 5
  | 12 => 6
  | 13 => 6
  | 14 => 9
  | 15 => 12
  | 16 => 12
  | 17 => 8
  | 18 => 9
  | 19 => 7
  | 20 => 9
  | 21 => 12
  | 22 => 14
  | 23 => 20
  | 24 => 16
  | 25 => 12
  | 26 => 15
  | 27 => 15
  | 28 => 10
  | 29 => 11
  | 30 => 11
  | 31 => 12
  | 32 => 12
  | 33 => 10
  | 34 => 11
  | 35 => 13
  | 36 => 13
  | 37 => 10
  | 38 => 11
  | 39 => 10
  | 40 => 10
  | 41 => 9
  | 42 => 10
  | 43 => 13
  | 44 => 9
  | 45 => 9
  | 46 => 12
  | 47 => 10
  | 48 => 0
  | 49 => 10
  | 50 => 9
  | 51 => 0
  | 52 => 12
  | 53 => 0
  | 54 => 0
  | 55 => 0
  | _ => 0
theorem flt_all : ∀ k, k < 57 → RefR (fltS k) (fltE k) (fltP k)
  | 0, _ => fl0
  | 1, _ => fl1
  | 2, _ => fl2
  | 3, _ => fl3
  | 4, _ => fl4
  | 5, _ => fl5
  | 6, _ => fl6
  | 7, _ => fl7
  | 8, _ => fl8
  | 9, _ => fl9
  | 10, _ => fl10
  | 11, _ => fl11
  | 12, _ => fl12
  | 13, _ => fl13
  | 14, _ => fl14
  | 15, _ => fl15
  | 16, _ => fl16
  | 17, _ => fl17
  | 18, _ => fl18
  | 19, _ => fl19
  | 20, _ => fl20
  | 21, _ => fl21
  | 22, _ => fl22
  | 23, _ => fl23
  | 24, _ => fl24
  | 25, _ => fl25
  | 26, _ => fl26
  | 27, _ => fl27
  | 28, _ => fl28
  | 29, _ => fl29
  | 30, _ => fl30
  | 31, _ => fl31
  | 32, _ => fl32
  | 33, _ => fl33
  | 34, _ => fl34
  | 35, _ => fl35
  | 36, _ => fl36
  | 37, _ => fl37
  | 38, _ => fl38
  | 39, _ => fl39
  | 40, _ => fl40
  | 41, _ => fl41
  | 42, _ => fl42
  | 43, _ => fl43
  | 44, _ => fl44
  | 45, _ => fl45
  | 46, _ => fl46
  | 47, _ => fl47
  | 48, _ => fl48
  | 49, _ => fl49
  | 50, _ => fl50
  | 51, _ => fl51
  | 52, _ => fl52
  | 53, _ => fl53
  | 54, _ => fl54
  | 55, _ => fl55
  | 56, _ => fl56
  | m + 57, h => absurd h (by omega)
def fltV (x0 x1 x2 x3 x4 x5 x6 : ByteArray) : Array Value := #[.string x0, .int .i64 0, .int .i64 0, .string x1, .int .i64 1, .int .i64 0, .string x2, .int .i64 0, .int .i64 0, .string x3, .int .i64 3, .int .i64 0, .string x4, .int .i64 0, .int .i64 0, .string x5, .int .i64 4, .int .i64 0, .string x6, .int .i64 4, .int .i64 0, .string flS7, .int .i64 2, .int .i64 0, .string flS8, .int .i64 2, .int .i64 3, .string flS9, .int .i64 2, .int .i64 4, .string flS10, .int .i64 2, .int .i64 5, .string flS11, .int .i64 2, .int .i64 5, .string flS12, .int .i64 2, .int .i64 6, .string flS13, .int .i64 2, .int .i64 6, .string flS14, .int .i64 2, .int .i64 9, .string flS15, .int .i64 2, .int .i64 12, .string flS16, .int .i64 2, .int .i64 12, .string flS17, .int .i64 2, .int .i64 8, .string flS18, .int .i64 2, .int .i64 9, .string flS19, .int .i64 2, .int .i64 7, .string flS20, .int .i64 2, .int .i64 9, .string flS21, .int .i64 2, .int .i64 12, .string flS22, .int .i64 2, .int .i64 14, .string flS23, .int .i64 2, .int .i64 20, .string flS24, .int .i64 2, .int .i64 16, .string flS25, .int .i64 2, .int .i64 12, .string flS26, .int .i64 2, .int .i64 15, .string flS27, .int .i64 2, .int .i64 15, .string flS28, .int .i64 2, .int .i64 10, .string flS29, .int .i64 2, .int .i64 11, .string flS30, .int .i64 2, .int .i64 11, .string flS31, .int .i64 2, .int .i64 12, .string flS32, .int .i64 2, .int .i64 12, .string flS33, .int .i64 2, .int .i64 10, .string flS34, .int .i64 2, .int .i64 11, .string flS35, .int .i64 2, .int .i64 13, .string flS36, .int .i64 2, .int .i64 13, .string flS37, .int .i64 2, .int .i64 10, .string flS38, .int .i64 2, .int .i64 11, .string flS39, .int .i64 2, .int .i64 10, .string flS40, .int .i64 2, .int .i64 10, .string flS41, .int .i64 2, .int .i64 9, .string flS42, .int .i64 2, .int .i64 10, .string flS43, .int .i64 2, .int .i64 13, .string flS44, .int .i64 2, .int .i64 9, .string flS45, .int .i64 2, .int .i64 9, .string flS46, .int .i64 2, .int .i64 12, .string flS47, .int .i64 2, .int .i64 10, .string flS48, .int .i64 0, .int .i64 0, .string flS49, .int .i64 2, .int .i64 10, .string flS50, .int .i64 2, .int .i64 9, .string flS51, .int .i64 0, .int .i64 0, .string flS52, .int .i64 2, .int .i64 12, .string flS53, .int .i64 0, .int .i64 0, .string flS54, .int .i64 0, .int .i64 0, .string flS55, .int .i64 0, .int .i64 0, .string flS56, .int .i64 0, .int .i64 0]
def fltC : Array Value := fltV flS0 flS1 flS2 flS3 flS4 flS5 flS6
theorem flt_cells : ∀ k, k < 57 → fltC[k * 3]? = some (.string (fltS k)) ∧ fltC[k * 3 + 1]? = some (.int .i64 (fltE k)) ∧ fltC[k * 3 + 2]? = some (.int .i64 (fltP k))
  | 0, _ => ⟨rfl, rfl, rfl⟩
  | 1, _ => ⟨rfl, rfl, rfl⟩
  | 2, _ => ⟨rfl, rfl, rfl⟩
  | 3, _ => ⟨rfl, rfl, rfl⟩
  | 4, _ => ⟨rfl, rfl, rfl⟩
  | 5, _ => ⟨rfl, rfl, rfl⟩
  | 6, _ => ⟨rfl, rfl, rfl⟩
  | 7, _ => ⟨rfl, rfl, rfl⟩
  | 8, _ => ⟨rfl, rfl, rfl⟩
  | 9, _ => ⟨rfl, rfl, rfl⟩
  | 10, _ => ⟨rfl, rfl, rfl⟩
  | 11, _ => ⟨rfl, rfl, rfl⟩
  | 12, _ => ⟨rfl, rfl, rfl⟩
  | 13, _ => ⟨rfl, rfl, rfl⟩
  | 14, _ => ⟨rfl, rfl, rfl⟩
  | 15, _ => ⟨rfl, rfl, rfl⟩
  | 16, _ => ⟨rfl, rfl, rfl⟩
  | 17, _ => ⟨rfl, rfl, rfl⟩
  | 18, _ => ⟨rfl, rfl, rfl⟩
  | 19, _ => ⟨rfl, rfl, rfl⟩
  | 20, _ => ⟨rfl, rfl, rfl⟩
  | 21, _ => ⟨rfl, rfl, rfl⟩
  | 22, _ => ⟨rfl, rfl, rfl⟩
  | 23, _ => ⟨rfl, rfl, rfl⟩
  | 24, _ => ⟨rfl, rfl, rfl⟩
  | 25, _ => ⟨rfl, rfl, rfl⟩
  | 26, _ => ⟨rfl, rfl, rfl⟩
  | 27, _ => ⟨rfl, rfl, rfl⟩
  | 28, _ => ⟨rfl, rfl, rfl⟩
  | 29, _ => ⟨rfl, rfl, rfl⟩
  | 30, _ => ⟨rfl, rfl, rfl⟩
  | 31, _ => ⟨rfl, rfl, rfl⟩
  | 32, _ => ⟨rfl, rfl, rfl⟩
  | 33, _ => ⟨rfl, rfl, rfl⟩
  | 34, _ => ⟨rfl, rfl, rfl⟩
  | 35, _ => ⟨rfl, rfl, rfl⟩
  | 36, _ => ⟨rfl, rfl, rfl⟩
  | 37, _ => ⟨rfl, rfl, rfl⟩
  | 38, _ => ⟨rfl, rfl, rfl⟩
  | 39, _ => ⟨rfl, rfl, rfl⟩
  | 40, _ => ⟨rfl, rfl, rfl⟩
  | 41, _ => ⟨rfl, rfl, rfl⟩
  | 42, _ => ⟨rfl, rfl, rfl⟩
  | 43, _ => ⟨rfl, rfl, rfl⟩
  | 44, _ => ⟨rfl, rfl, rfl⟩
  | 45, _ => ⟨rfl, rfl, rfl⟩
  | 46, _ => ⟨rfl, rfl, rfl⟩
  | 47, _ => ⟨rfl, rfl, rfl⟩
  | 48, _ => ⟨rfl, rfl, rfl⟩
  | 49, _ => ⟨rfl, rfl, rfl⟩
  | 50, _ => ⟨rfl, rfl, rfl⟩
  | 51, _ => ⟨rfl, rfl, rfl⟩
  | 52, _ => ⟨rfl, rfl, rfl⟩
  | 53, _ => ⟨rfl, rfl, rfl⟩
  | 54, _ => ⟨rfl, rfl, rfl⟩
  | 55, _ => ⟨rfl, rfl, rfl⟩
  | 56, _ => ⟨rfl, rfl, rfl⟩
  | m + 57, h => absurd h (by omega)

end Go.Proofs.YtdaneedflpfeaabGreatDoor
