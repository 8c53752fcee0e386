import Derived.Test.YtdaneedflpfeaaaGreatDoorRefNode
import Derived.Test.YtdaneedflpfeaaaGreatDoorPatF
import Derived.Test.YtdaneedflpfeaaaGreatDoorRefToks
namespace Go.Proofs.YtdaneedflpfeaaaGreatDoor
set_option maxRecDepth 100000
open Go.RowKit

structure RA (w : World) (g off : Nat) (l : List Rw) : Prop where
  lt : g < w.heap.size
  at_ : ∀ j u, (rwsCells l)[j]? = some u → w.cell? ⟨g, off + j, none⟩ = some u
theorem rcell_heap {w w' : World} {a : Addr} (h : w'.heap[a.block]? = w.heap[a.block]?) : w'.cell? a = w.cell? a := by
  unfold World.cell?; rw [h]
theorem RA.below {w w' : World} {g off B : Nat} {l : List Rw} (h : RA w g off l) (hb : Below B w w') (hB : g < B) : RA w' g off l :=
  ⟨by have := hb.size; have := h.lt; omega, fun j u hu => (rcell_heap (hb.block g hB)).trans (h.at_ j u hu)⟩
theorem RA.heap {w w' : World} {g off : Nat} {l : List Rw} (h : RA w g off l) (hb : w'.heap[g]? = w.heap[g]?) : RA w' g off l := by
  refine ⟨?_, fun j u hu => (rcell_heap hb).trans (h.at_ j u hu)⟩
  have hl := h.lt
  rcases Nat.lt_or_ge g w'.heap.size with q | q
  · exact q
  · rw [Array.getElem?_eq_none q, Array.getElem?_eq_getElem hl] at hb; cases hb
theorem RA.cell {w : World} {g off : Nat} {l : List Rw} (h : RA w g off l) {i : Nat} {x : Rw} (hx : l[i]? = some x) :
    w.cell? ⟨g, off + i * 3, none⟩ = some (.int .i64 (x.deep : Int)) ∧ w.cell? ⟨g, off + i * 3 + 1, none⟩ = some (.bool (!x.inner)) ∧ w.cell? ⟨g, off + i * 3 + 2, none⟩ = some (.string x.text) := by
  refine ⟨h.at_ (i * 3) _ ?_, h.at_ (i * 3 + 1) _ ?_, h.at_ (i * 3 + 2) _ ?_⟩
  · have := rwsCells_get l i 0 (by omega); rw [Nat.add_zero] at this; rw [this, hx]; rfl
  · rw [rwsCells_get l i 1 (by omega), hx]; rfl
  · rw [rwsCells_get l i 2 (by omega), hx]; rfl
theorem RA.cell0 {w : World} {g : Nat} {l : List Rw} (h : RA w g 0 l) {i : Nat} {x : Rw} (hx : l[i]? = some x) :
    w.cell? ⟨g, i * 3, none⟩ = some (.int .i64 (x.deep : Int)) ∧ w.cell? ⟨g, i * 3 + 1, none⟩ = some (.bool (!x.inner)) ∧ w.cell? ⟨g, i * 3 + 2, none⟩ = some (.string x.text) := by
  have := h.cell hx
  simpa only [Nat.zero_add] using this
theorem RA.of_own {w : World} {base g cap n : Nat} {l : List Rw} (h : w.ownsRow base 51 3 (.slice (some ⟨g, 0, none⟩) n cap) l.length (rwsCells l)) (hg : g < w.heap.size) (hn : n = l.length) : RA w g 0 l :=
  ⟨hg, fun j u hu => by
    subst hn
    have hj : j < (rwsCells l).length := by
      rcases Nat.lt_or_ge j (rwsCells l).length with q | q
      · exact q
      · rw [List.getElem?_eq_none q] at hu; cases hu
    rw [rwsCells_len] at hj
    rw [Nat.zero_add, h.cellAt j hj]; exact hu⟩

/-- How many rows stand below a row. -/
def goU (l : List Rw) (d : Nat) (e : Nat) : Nat := if h : e < l.length then (if d < (l[e]).deep then goU l d (e + 1) else e) else e
  termination_by l.length - e
theorem goU_le (l : List Rw) (d : Nat) (e : Nat) (h : e ≤ l.length) : e ≤ goU l d e ∧ goU l d e ≤ l.length := by
  induction e using goU.induct l d with
  | case1 e h1 h2 ih => rw [goU, dif_pos h1, if_pos h2]; have := ih (by omega); omega
  | case2 e h1 h2 => rw [goU, dif_pos h1, if_neg h2]; omega
  | case3 e h1 => rw [goU, dif_neg h1]; omega
def undR (l : List Rw) (k : Nat) : Nat := match l[k]? with | some x => goU l x.deep (k + 1) - (k + 1) | none => 0
theorem undR_le {l : List Rw} {k : Nat} (h : k < l.length) : k + 1 + undR l k ≤ l.length := by
  unfold undR
  rw [List.getElem?_eq_getElem h]
  have := goU_le l (l[k]).deep (k + 1) h
  simp only
  omega

set_option maxHeartbeats 1600000 in
theorem under_at (l : List Rw) (k g off cap : Nat) (w : World) (hl : l.length ≤ 1000000) (hk : k < l.length) (hn : RA w g off l) :
    Calls Tryz.prog 44 #[.slice (some ⟨g, off, none⟩) l.length cap, .int .i64 (k : Int)] w fun e w' => e = .returned (.int .i64 (undR l k : Int)) ∧ Below w.heap.size w w' := by
  have HN := hide hn
  have hgl := hn.lt
  obtain ⟨y, hy⟩ : ∃ y, l[k]? = some y := ⟨_, List.getElem?_eq_getElem hk⟩
  have HS : Hid (undR l k = goU l y.deep (k + 1) - (k + 1)) := by show undR l k = _; rw [undR, hy]
  have HY := hide hy
  clear hn hy
  go_enter Tryz.func44, Tryz.ntmps44
  go_wp2_with fail
  go_loopw [5] (fun i wr => ∃ e : Nat, k + 1 + e ≤ l.length ∧ i = .int .i64 e ∧ Hid (goU l y.deep (k + 1 + e) = goU l y.deep (k + 1)) ∧ Below w.heap.size w wr) (fun i _ => l.length - (intOf i).toNat)
  case atStart => exact ⟨0, by omega, rfl, rfl, Below.refl _ _⟩
  case round =>
    obtain ⟨e, he2, rfl, HE, hB⟩ := hrel
    have hna := (unhide HN).below hB hgl
    obtain ⟨k2, _, _⟩ := hna.cell (unhide HY)
    have HB := hide hB
    have hw1 : IntKind.i64.wrap ((k : Int) + 1) = (k : Int) + 1 := IntWalk.i64_in _ (by omega)
    have hw2 : IntKind.i64.wrap ((k : Int) + 1 + (e : Int)) = (k : Int) + 1 + (e : Int) := IntWalk.i64_in _ (by omega)
    by_cases hlt : k + 1 + e < l.length
    · have hx : l[k + 1 + e]? = some l[k + 1 + e] := List.getElem?_eq_getElem hlt
      obtain ⟨e2, _, _⟩ := hna.cell hx
      have HG := hide (goU.eq_1 l y.deep (k + 1 + e))
      have hix : ((k : Int) + 1 + (e : Int)).toNat = k + 1 + e := by omega
      have hdl : decide ((k : Int) + 1 + (e : Int) < (l.length : Int)) = true := by simp; omega
      clear hna hB hx
      by_cases hd : y.deep < (l[k + 1 + e]).deep
      · have HE2 : Hid (goU l y.deep (k + 1 + (e + 1)) = goU l y.deep (k + 1)) := by show _ = _; rw [← unhide HE, unhide HG, dif_pos hlt, if_pos hd]; rfl
        clear HG HE
        generalize (l[k + 1 + e]'hlt) = x at *
        have hdd : decide ((y.deep : Int) < (x.deep : Int)) = true := by simp; omega
        go_wp2_with fail
        go_quiet (fail)
        go_wp2_with fail
        go_roundw
        case rel => exact ⟨e + 1, by omega, by go_num, HE2, (unhide HB).trans (below_drewN' _ _ _)⟩
        case measure => simp [intOf]; omega
      · have HE2 : Hid (goU l y.deep (k + 1) = k + 1 + e) := by show _ = _; rw [← unhide HE, unhide HG, dif_pos hlt, if_neg hd]
        clear HG HE
        generalize (l[k + 1 + e]'hlt) = x at *
        have hdd : decide ((y.deep : Int) < (x.deep : Int)) = false := by simp; omega
        go_wp2_with fail
        go_quiet (fail)
        go_wp2_with fail
        go_ret
        exact ⟨ret_int (by rw [unhide HS, unhide HE2]; omega), (unhide HB).trans (below_drewN' _ _ _)⟩
    · have HE2 : Hid (goU l y.deep (k + 1) = k + 1 + e) := by show _ = _; rw [← unhide HE, goU, dif_neg hlt]
      have hdl : decide ((k : Int) + 1 + (e : Int) < (l.length : Int)) = false := by simp; omega
      clear hna hB
      go_wp2_with fail
      go_quiet (fail)
      go_wp2_with fail
      go_ret
      exact ⟨ret_int (by rw [unhide HS, unhide HE2]; omega), (unhide HB).trans (below_drewN' _ _ _)⟩

theorem under_any (l : List Rw) (k g cap : Nat) (w : World) (hl : l.length ≤ 1000000) (hk : k < l.length) (hn : RA w g 0 l) :
    Calls Tryz.prog 44 #[.slice (some ⟨g, 0, none⟩) l.length cap, .int .i64 (k : Int)] w fun e w' => e = .returned (.int .i64 (undR l k : Int)) ∧ Below w.heap.size w w' := under_at l k g 0 cap w hl hk hn

end Go.Proofs.YtdaneedflpfeaaaGreatDoor

namespace Go.Proofs.YtdaneedflpfeaaaGreatDoor
set_option maxRecDepth 100000
open Go.RowKit

def cntR (o : Option Nat) : Int := match o with | some n => (n : Int) | none => -1

set_option maxHeartbeats 1600000 in
theorem refCount_any (s : ByteArray) (w : World) (hs : s.size ≤ 1000000) :
    Calls Tryz.prog 43 #[.string s] w fun e w' => e = .returned (.int .i64 (cntR (numV s.data.toList))) ∧ w' = w := by
  by_cases he : s.size = 0
  · have hse := size0 he
    subst hse
    go_enter Tryz.func43, Tryz.ntmps43
    go_wp2_with fail
    go_ret
    exact ⟨rfl, rfl⟩
  have hpos : 0 < s.size := by omega
  have hne := toList_ne hpos
  have HNE : Hid (s.data.toList ≠ []) := by show _ ≠ _; intro e; have h2 : s.data.toList.length = s.size := rfl; rw [e] at h2; simp at h2; omega
  have HLEN : Hid (s.data.toList.length = s.size) := rfl
  by_cases h6 : 6 < s.size
  · have HV : Hid (numV s.data.toList = none) := by show _ = _; rw [numV, if_pos (.inr (.inl (by rw [unhide HLEN]; exact h6)))]
    go_enter Tryz.func43, Tryz.ntmps43
    go_wp2_with fail
    go_ret
    rw [unhide HV]
    exact ⟨rfl, rfl⟩
  have HH := hide (head_at hpos)
  by_cases h0 : (s[0].toNat : Int) = 48 ∧ 1 < s.size
  · obtain ⟨h48, h1⟩ := h0
    have HV : Hid (numV s.data.toList = none) := by
      show _ = _
      rw [numV, if_pos (.inr (.inr ⟨by rw [unhide HH]; congr 1; exact UInt8.toNat_inj.1 (by show _ = 48; omega), by rw [unhide HLEN]; exact h1⟩))]
    have h48' : ((s[0].toNat : Int) == 48) = true := by simp [h48]
    clear h48
    go_enter Tryz.func43, Tryz.ntmps43
    go_wp2_with fail
    go_ret
    rw [unhide HV]
    exact ⟨rfl, rfl⟩
  have HC : Hid (numV s.data.toList = if allDig s.data.toList then some (digV s.data.toList) else none) := by
    show numV _ = _
    rw [numV, if_neg]
    rintro (h | h | ⟨h, h1⟩)
    · exact unhide HNE h
    · rw [unhide HLEN] at h; omega
    · rw [unhide HH] at h
      rw [unhide HLEN] at h1
      refine h0 ⟨?_, h1⟩
      rw [Option.some.inj h]; rfl
  have hor : ((s[0].toNat : Int) == 48) = false ∨ (((s[0].toNat : Int) == 48) = true ∧ ¬ (1 : Int) < (s.size : Int)) := by
    by_cases g : (s[0].toNat : Int) = 48
    · exact .inr ⟨by simp [g], fun h => h0 ⟨g, by omega⟩⟩
    · exact .inl (by simp [g])
  clear HH h0 HNE
  rcases hor with hz | ⟨hz1, hz⟩
  all_goals
    go_enter Tryz.func43, Tryz.ntmps43
    go_wp2_with fail
    go_loop [3, 4] (fun v i => ∃ k : Nat, k ≤ s.size ∧ i = .int .i64 k ∧ v = .int .i64 (digV (s.data.toList.take k) : Int) ∧ Hid (allDig (s.data.toList.take k) = true) ∧ digV (s.data.toList.take k) ≤ 999999) (fun _ i => s.size - (intOf i).toNat)
    case atStart => exact ⟨0, Nat.zero_le _, rfl, rfl, rfl, Nat.zero_le _⟩
    case round =>
      obtain ⟨k, hk, rfl, rfl, HA, hbd⟩ := hrel
      by_cases hlt : k < s.size
      · have HT := hide (take_snocB s k hlt)
        have hb : ((s[k].toNat : Nat) : Int) ≤ 255 := by have := s[k].toNat_lt; omega
        cases hd : digitB (s[k].toNat : Int) with
        | true =>
          have hdd : 48 ≤ (s[k].toNat : Int) ∧ (s[k].toNat : Int) ≤ 57 := by simpa [digitB] using hd
          have HA2 : Hid (allDig (s.data.toList.take (k + 1)) = true) := by
            show _ = _
            have := unhide HA
            rw [unhide HT]; simp only [allDig, List.all_append, Bool.and_eq_true] at this ⊢; exact ⟨this, by simp [hd]⟩
          have HV2 : Hid ((digV (s.data.toList.take (k + 1)) : Int) = 10 * (digV (s.data.toList.take k) : Int) + (s[k].toNat : Int) - 48) := by
            show _ = _
            rw [unhide HT, digV_snoc]; omega
          have hbd2 : digV (s.data.toList.take (k + 1)) ≤ 999999 := digV_bd _ (unhide HA2) (by have := List.length_take_le (k + 1) s.data.toList; omega)
          generalize digV (s.data.toList.take k) = V at *
          go_wp2_with (first
            | (go_at_call 66; refine (num_any _ _ (by omega) (by omega)).mono ?_; rintro e w1 ⟨rfl, hw⟩; have hw := hw.symm; subst hw)
            | fail)
          go_round
          case rel => exact ⟨k + 1, by omega, by go_num, by rw [unhide HV2], HA2, hbd2⟩
          case measure => simp [intOf]; omega
        | false =>
          have HV : Hid (numV s.data.toList = none) := by
            show _ = _
            rw [unhide HC, if_neg]
            intro h
            have h1 := List.all_eq_true.1 h s[k] (by have : s[k] ∈ s.data.toList := List.getElem_mem (show k < s.data.toList.length from hlt); exact this)
            rw [hd] at h1; cases h1
          go_wp2_with (first
            | (go_at_call 66; refine (num_any _ _ (by omega) (by omega)).mono ?_; rintro e w1 ⟨rfl, hw⟩; have hw := hw.symm; subst hw)
            | fail)
          go_ret
          rw [unhide HV]
          exact ⟨rfl, rfl⟩
      · have HT : Hid (s.data.toList.take k = s.data.toList) := List.take_of_length_le (by show s.size ≤ k; omega)
        have HV : Hid (numV s.data.toList = some (digV (s.data.toList.take k))) := by
          show _ = _
          rw [unhide HC, unhide HT, if_pos]; have := unhide HA; rw [unhide HT] at this; exact this
        generalize digV (s.data.toList.take k) = V at *
        go_wp2_with fail
        go_ret
        rw [unhide HV]
        exact ⟨rfl, rfl⟩

/-! ## Rows in memory -/
end Go.Proofs.YtdaneedflpfeaaaGreatDoor

namespace Go.Proofs.YtdaneedflpfeaaaGreatDoor
set_option maxRecDepth 100000
open Go.RowKit

def leafR (l : List Rw) : List UInt8 := l.flatMap fun x => if x.inner then [] else x.text.data.toList
theorem leafR_snoc (l : List Rw) (x : Rw) : leafR (l ++ [x]) = leafR l ++ (if x.inner then [] else x.text.data.toList) := by simp [leafR]

set_option maxHeartbeats 3200000 in
theorem refPrint_any (l : List Rw) (g cap : Nat) (w : World) (hl : l.length ≤ 100000) (ht : ∀ x ∈ l, x.text.size ≤ 10000) (hn : RA w g 0 l) :
    Calls Tryz.prog 24 #[.slice (some ⟨g, 0, none⟩) l.length cap] w fun e w' => e = .returned (.string (mk (leafR l))) ∧ Below w.heap.size w w' := by
  have HN := hide hn
  have HT := hide ht
  have hgl := hn.lt
  clear hn ht
  go_enter Tryz.func24, Tryz.ntmps24
  go_wp2_with fail
  go_loopw [3, 5, 8] (fun v _ i wr => ∃ (k : Nat) (o : ByteArray), k ≤ l.length ∧ i = .int .i64 k ∧ v = .string o ∧ Hid (o = mk (leafR (l.take k))) ∧ o.size ≤ k * 10000 ∧ Below w.heap.size w wr) (fun _ _ i _ => l.length - (intOf i).toNat)
  case atStart => exact ⟨0, ⟨#[]⟩, Nat.zero_le _, rfl, rfl, rfl, Nat.le_refl _, Below.refl _ _⟩
  case round =>
    obtain ⟨k, o, hk, rfl, rfl, HO, hos, hB⟩ := hrel
    have HB := hide hB
    have hsz := hB.size
    have hgr : g < wr.heap.size := by omega
    have hna := (unhide HN).below hB hgl
    by_cases hlt : k < l.length
    · have hx : l[k]? = some l[k] := List.getElem?_eq_getElem hlt
      obtain ⟨x0, x1, x2⟩ := hna.cell0 hx
      have hxt := unhide HT _ (List.getElem_mem hlt)
      have HI : Hid (leafR (l.take (k + 1)) = leafR (l.take k) ++ (if (l[k]'hlt).inner then [] else (l[k]'hlt).text.data.toList)) := by show _ = _; rw [List.take_succ_eq_append_getElem hlt, leafR_snoc]
      clear hna hB hx
      generalize (l[k]'hlt) = x at *
      cases hin : x.inner with
      | true =>
        rw [hin] at x1
        have HO2 : Hid (o = mk (leafR (l.take (k + 1)))) := by show o = _; rw [unhide HI, hin, unhide HO]; simp
        clear hin
        go_wp2_with fail
        go_roundw
        case rel => exact ⟨k + 1, o, by omega, by go_num, rfl, HO2, by omega, (unhide HB).alloc hsz _⟩
        case measure => simp [intOf]; omega
      | false =>
        rw [hin] at x1
        have HO2 : Hid (o ++ x.text = mk (leafR (l.take (k + 1)))) := by show _ = _; rw [unhide HI, hin, unhide HO, cat_mk]; rfl
        clear hin
        go_wp2_with fail
        go_roundw
        case rel => exact ⟨k + 1, _, by omega, by go_num, rfl, HO2, by rw [ByteArray.size_append]; omega, (unhide HB).alloc hsz _⟩
        case measure => simp [intOf]; omega
    · have HTK : Hid (l.take k = l) := List.take_of_length_le (by omega)
      clear hna hB
      go_wp2_with fail
      go_ret
      exact ⟨ret_str (by rw [unhide HO, unhide HTK]), unhide HB⟩

theorem splitL_sep (c : UInt8) (l : List UInt8) : splitL c (l ++ [c]) = splitL c l ++ [[]] := by
  induction l with
  | nil => simp [splitL]
  | cons x l ih =>
    rw [List.cons_append, splitL, splitL, ih]
    split
    · rfl
    · cases h : splitL c l with
      | nil => have := (splitL_len c l).1; rw [h] at this; simp at this
      | cons a r => rfl
theorem splitL_add {c x : UInt8} (hx : x ≠ c) (l : List UInt8) : ∀ (I : List (List UInt8)) (t : List UInt8), splitL c l = I ++ [t] → splitL c (l ++ [x]) = I ++ [t ++ [x]] := by
  induction l with
  | nil =>
    intro I t h
    simp only [splitL] at h
    cases I with
    | nil => simp at h; subst h; simp [splitL, hx]
    | cons a r => simp at h
  | cons y l ih =>
    intro I t h
    rw [List.cons_append, splitL]
    rw [splitL] at h
    split
    · rename_i e
      rw [if_pos e] at h
      cases I with
      | nil => simp at h; have := (splitL_len c l).1; rw [h.2] at this; simp at this
      | cons a r =>
        simp only [List.cons_append, List.cons.injEq] at h
        rw [ih r t h.2, ← h.1]; rfl
    · rename_i e
      rw [if_neg e] at h
      cases hs : splitL c l with
      | nil => have := (splitL_len c l).1; rw [hs] at this; simp at this
      | cons a r =>
        rw [hs] at h
        simp only at h
        cases I with
        | nil =>
          simp only [List.nil_append, List.cons.injEq] at h
          obtain ⟨h1, h2⟩ := h
          subst h1 h2
          rw [ih [] a (by rw [hs]; rfl)]; rfl
        | cons b r2 =>
          simp only [List.cons_append, List.cons.injEq] at h
          obtain ⟨h1, h2⟩ := h
          subst h1
          rw [ih (a :: r2) t (by rw [hs, h2]; rfl)]; rfl
theorem strs_set (I : List (List UInt8)) (t t2 : List UInt8) (x : ByteArray) (hx : x = mk t2) : (strsV (I ++ [t])).set I.length (.string x) = strsV (I ++ [t2]) := by
  rw [strsV_append, strsV_append]
  have e : I.length = (strsV I).length := by simp [strsV]
  rw [e, List.set_append_right _ _ (Nat.le_refl _), Nat.sub_self, hx]; rfl
theorem own_frzS {w : World} {base g cap n : Nat} {xs : List Value} (h : w.ownsRow base 9 1 (.slice (some ⟨g, 0, none⟩) n cap) n xs) : ∀ j, w.frozen? ⟨g, j, none⟩ = false := by
  rcases h.2 with ⟨h0, _⟩ | ⟨g', cap', cur, hv, _, hb, _⟩
  · cases h0
  · simp only [Value.slice.injEq, Option.some.injEq, Addr.mk.injEq, and_true, true_and] at hv
    obtain ⟨rfl, _⟩ := hv
    exact fun j => frozen_of_row w _ j _ _ hb

set_option maxHeartbeats 3200000 in
theorem cut_any (s : ByteArray) (c : UInt8) (w : World) (hs : s.size ≤ 1000000) :
    Calls Tryz.prog 22 #[.string s, .int .u8 (c.toNat : Int)] w fun e w' => Below w.heap.size w w' ∧ ∃ g cap, e = .returned (.slice (some ⟨g, 0, none⟩) (splitL c s.data.toList).length cap) ∧ g < w'.heap.size ∧ w'.ownsRow w.heap.size 9 1 (.slice (some ⟨g, 0, none⟩) (splitL c s.data.toList).length cap) (splitL c s.data.toList).length (strsV (splitL c s.data.toList)) := by
  obtain ⟨i0, hi, hz0, hz1, hz2⟩ := info_parts Tryz.infoStr
  have HNEW : Hid ((w.alloc (.cells #[.string ⟨#[]⟩] 9 (0, 0))).ownsRow w.heap.size 9 1 (.slice (some ⟨w.heap.size, 0, none⟩) 1 1) 1 (strsV [[]])) := ⟨rfl, .inr ⟨w.heap.size, 1, #[.string ⟨#[]⟩], rfl, Nat.le_refl _, heap_alloc_new _ _, Nat.le_refl _, by unfold maxLen; omega, rfl, rfl⟩⟩
  go_enter Tryz.func22, Tryz.ntmps22
  go_wp2_with fail
  go_loopw [5, 6] (fun v i wr => ∃ (k g cap : Nat) (I : List (List UInt8)) (t : List UInt8), k ≤ s.size ∧ I.length ≤ k ∧ t.length ≤ k ∧ i = .int .i64 k ∧ v = .slice (some ⟨g, 0, none⟩) (I.length + 1) cap ∧ g < wr.heap.size ∧ wr.ownsRow w.heap.size 9 1 (.slice (some ⟨g, 0, none⟩) (I.length + 1) cap) (I.length + 1) (strsV (I ++ [t])) ∧ Hid (splitL c (s.data.toList.take k) = I ++ [t]) ∧ Below w.heap.size w wr) (fun _ i _ => s.size - (intOf i).toNat)
  case atStart => exact ⟨0, w.heap.size, 1, [], [], Nat.zero_le _, Nat.le_refl _, Nat.le_refl _, rfl, rfl, by simp, unhide HNEW, rfl, (Below.refl _ _).alloc (Nat.le_refl _) _⟩
  case round =>
    obtain ⟨k, g, cap, I, t, hk, hI, ht, rfl, rfl, hg, hown, HE, hB⟩ := hrel
    have HO := hide hown
    have HB := hide hB
    have hsz := hB.size
    by_cases hlt : k < s.size
    · have HT := hide (take_snocB s k hlt)
      by_cases hc : s[k] = c
      · have hc' : ((s[k].toNat : Int) == (c.toNat : Int)) = true := by rw [hc]; simp
        have HE2 : Hid (splitL c (s.data.toList.take (k + 1)) = (I ++ [t]) ++ [[]]) := by show _ = _; rw [unhide HT, hc, splitL_sep, unhide HE]
        have hlI : (I ++ [t]).length = I.length + 1 := by simp
        have HLI := hide hlI
        clear hown hB hc hlI HE
        generalize I ++ [t] = IT at *
        go_wp2_with (first
          | (at_builtin; refine wpList_append_lies _ rfl (.tmp 19) (.tmp 20) 33 rfl w.heap.size 9 i0 (.string ⟨#[]⟩) 1 16 Tryz.underlying33 hi hz0 hz1 hz2 rfl (by decide) _ (I.length + 1) (strsV IT) rfl ((unhide HO).alloc _) ⟨wr.heap.size, 0, none⟩ 1 1 [.string ⟨#[]⟩] rfl rfl (news_of (heap_alloc_new _ _)) (by intro u hu; simp at hu; subst hu; rfl) (by decide) (by unfold maxLen; omega) (by omega) (by simp; omega) _ rfl ?_)
          | fail)
        intro g2 cap2 w2 hown2 hgrow _ hlt2
        have HB2 : Hid (Below w.heap.size w w2) := ((unhide HB).alloc hsz _).grown hgrow (by simp; omega) (fun j hj => ((unhide HO).lt j hj).1)
        have HO2 := hide hown2
        clear hown2 hgrow HO HB
        go_wp2_with fail
        go_roundw
        case rel => exact ⟨k + 1, g2, cap2, IT, [], by omega, by rw [unhide HLI]; omega, Nat.zero_le _, by go_num, by rw [unhide HLI], hlt2, by rw [strsV_append, unhide HLI]; exact unhide HO2, HE2, unhide HB2⟩
        case measure => simp [intOf]; omega
      · have hc' : ((s[k].toNat : Int) == (c.toNat : Int)) = false := u8_ne hc
        have HE2 : Hid (splitL c (s.data.toList.take (k + 1)) = I ++ [t ++ [s[k]]]) := by show _ = _; rw [unhide HT]; exact splitL_add hc _ _ _ (unhide HE)
        have hcell : wr.cell? ⟨g, I.length, none⟩ = some (.string (mk t)) := by
          rw [hown.cellAt I.length (by omega)]
          rw [strsV_append, List.getElem?_append_right (by simp [strsV])]; simp [strsV]
        have hfz := own_frzS hown
        have hts : (mk t).size ≤ 1000000 := by rw [mk_size]; omega
        have HX : Hid (mk t ++ s.extract k (k + 1) = mk (t ++ [s[k]])) := by
          show _ = _
          rw [ext_mk, mk_append, drop_at hlt]; simp
        have HST : Hid (∀ x, x = mk (t ++ [s[k]]) → (wr.setCell ⟨g, I.length, none⟩ (.string x)).ownsRow w.heap.size 9 1 (.slice (some ⟨g, 0, none⟩) (I.length + 1) cap) (I.length + 1) (strsV (I ++ [t ++ [s[k]]]))) := fun x hx => by
          rw [← strs_set I t _ x hx]; exact ((unhide HO).stored I.length (.string x)).1
        have hbg := (hown.lt g rfl).1
        have hw1 : IntKind.i64.wrap ((k : Int) + 1) = (k : Int) + 1 := IntWalk.i64_in _ (by omega)
        have hw2 : IntKind.i64.wrap (I.length : Int) = (I.length : Int) := IntWalk.i64_in _ (by omega)
        have hw3 : IntKind.i64.wrap ((I.length : Int) + 1 - 1) = (I.length : Int) := by rw [Int.add_sub_cancel]; exact hw2
        have he1 : (s.extract k (k + 1)).size ≤ 1 := by rw [ByteArray.size_extract]; omega
        clear hown hB hc HE
        generalize mk t = tb at *
        go_wp2_with fail
        go_region
        all_goals go_wp2_with fail
        all_goals go_roundw
        all_goals first
          | (case measure => simp [intOf]; omega)
          | skip
        all_goals exact ⟨k + 1, g, cap, I, t ++ [s[k]], by omega, by omega, by rw [List.length_append]; simp; omega, by go_num, rfl, by simp; omega, (unhide HST _ (unhide HX)).drew, HE2, ((unhide HB).setCell (p := ⟨g, I.length, none⟩) hbg _).drew⟩
    · have HTK : Hid (splitL c s.data.toList = I ++ [t]) := by
        show _ = _
        have := unhide HE
        rwa [List.take_of_length_le (by show s.size ≤ k; omega)] at this
      clear hown hB HE
      go_wp2_with fail
      go_ret
      refine ⟨unhide HB, g, cap, ?_, hg, ?_⟩
      · rw [unhide HTK, List.length_append]; rfl
      · rw [unhide HTK, List.length_append]; exact unhide HO

end Go.Proofs.YtdaneedflpfeaaaGreatDoor
