import Derived.Test.YtdaneedflpfeaaaGreatDoorRefQ5
import Derived.Laws.IdiomCopy
import Derived.Test.YtdaneedflpfeaaaGreatDoorRead
namespace Go.Proofs.YtdaneedflpfeaaaGreatDoor
set_option maxRecDepth 100000
open Go.RowKit

theorem below_cells {B b : Nat} {a : World} (hb : B ≤ b) : ∀ (vs : List Value) (o : Nat) (w : World), Below B a w → Below B a (w.setCells b o vs)
  | [], _, _, h => h
  | v :: vs, o, _, h => below_cells hb vs (o + 1) _ (h.setCell (p := ⟨b, o, none⟩) hb v)
theorem size_cells (b : Nat) : ∀ (vs : List Value) (o : Nat) (w : World), (w.setCells b o vs).heap.size = w.heap.size
  | [], _, _ => rfl
  | v :: vs, o, w => by
    show ((w.setCell ⟨b, o, none⟩ v).setCells b (o + 1) vs).heap.size = _
    rw [size_cells b vs]; simp
theorem lifts_del (l : List Rw) (q u : Nat) (hq : q < l.length) : (lifts l q u).take q ++ (lifts l q u).drop (q + 1) = l.take q ++ ((l.drop (q + 1)).take u).map Rw.down ++ l.drop (q + 1 + u) := by
  have e : (l.take (q + 1)).length = q + 1 := by rw [List.length_take]; omega
  have e1 : (lifts l q u).take q = l.take q := by
    rw [lifts, List.append_assoc, List.take_append_of_le_length (by omega), List.take_take, Nat.min_eq_left (by omega)]
  have e2 : (lifts l q u).drop (q + 1) = ((l.drop (q + 1)).take u).map Rw.down ++ l.drop (q + 1 + u) := by
    rw [lifts, List.append_assoc, List.drop_left' e]
  rw [e1, e2, List.append_assoc]
theorem RA.moved {w : World} {base g cap n q : Nat} {L : List Rw} (h : w.ownsRow base 51 3 (.slice (some ⟨g, 0, none⟩) n cap) n (rwsCells L)) (hn : n = L.length) (hg : g < w.heap.size) (hq : q < L.length) : RA (w.setCells g (0 + q * 3) (rwsCells (L.drop (q + 1)))) g 0 (L.take q ++ L.drop (q + 1)) := by
  refine ⟨by rw [size_cells]; exact hg, fun j u hu => ?_⟩
  subst hn
  rw [Nat.zero_add, Nat.zero_add]
  have hln : (rwsCells (L.drop (q + 1))).length = (L.length - (q + 1)) * 3 := by rw [rwsCells_len, List.length_drop]
  have hlt : (rwsCells (L.take q)).length = q * 3 := by rw [rwsCells_len, List.length_take, Nat.min_eq_left (by omega)]
  rw [rwsCells_split] at hu
  rcases Nat.lt_or_ge j (q * 3) with hj | hj
  · rw [World.cell?_setCells_out g _ _ w ⟨g, j, none⟩ (fun _ _ => .inl hj), h.cellAt j (by omega)]
    rw [List.getElem?_append_left (by omega)] at hu
    have e : rwsCells L = rwsCells (L.take q) ++ rwsCells (L.drop q) := by rw [← rwsCells_split, List.take_append_drop]
    rw [e, List.getElem?_append_left (by omega)]; exact hu
  · rw [List.getElem?_append_right (by omega), hlt] at hu
    obtain ⟨hj2, hu2⟩ := List.getElem?_eq_some_iff.1 hu
    have := World.cell?_setCells_in g (rwsCells (L.drop (q + 1))) (q * 3) w (fun i hi => by rw [h.cellAt (q * 3 + i) (by omega), List.getElem?_eq_getElem (by rw [rwsCells_len]; omega)]; rfl) (j - q * 3) hj2
    rw [show q * 3 + (j - q * 3) = j by omega] at this
    rw [this, hu2]
set_option maxHeartbeats 12800000 in
theorem stepD_any (l : List Rw) (s : ByteArray) (W : List (List UInt8)) (x1 : List UInt8) (g cap : Nat) (w : World) (hs : s.size ≤ 10000) (hW : splitL 32 s.data.toList = W) (hWW : W = [[100], x1]) (hl1 : 1 ≤ l.length) (hl : l.length ≤ 1000000) (hd : ∀ x ∈ l, x.deep ≤ 1000000) (hz1 : x1.length ≤ 10000) (hn : RA w g 0 l) :
    Calls Tryz.prog 23 #[.slice (some ⟨g, 0, none⟩) l.length cap, .string s] w fun e w' => RowsR w (stepO l (stepW W)) e w' := by
  have HC : Hid (∀ wx, Calls Tryz.prog 22 #[.string s, .int .u8 32] wx fun e w' => Below wx.heap.size wx w' ∧ ∃ g cap, e = .returned (.slice (some ⟨g, 0, none⟩) W.length cap) ∧ g < w'.heap.size ∧ w'.ownsRow wx.heap.size 9 1 (.slice (some ⟨g, 0, none⟩) W.length cap) W.length (strsV W)) := fun wx => by
    have := cut_any s 32 wx (by omega)
    rw [hW] at this
    exact this
  have HN := hide hn
  have hgl := hn.lt
  clear hn hW
  go_enter Tryz.func23, Tryz.ntmps23
  go_wp2_with fail
  refine (unhide HC _).mono ?_
  rintro e w1 ⟨hB1, gw, capw, rfl, hgw, how⟩
  have hsz1 := hB1.size
  have HB1 := hide hB1
  have HN1 := hide ((unhide HN).below hB1 hgl)
  have HCELL : Hid (∀ i x, W[i]? = some x → w1.cell? ⟨gw, i, none⟩ = some (.string (mk x))) := fun i x hx => by
    have hi : i < W.length := by
      rcases Nat.lt_or_ge i W.length with h | h
      · exact h
      · rw [List.getElem?_eq_none h] at hx; cases hx
    rw [how.cellAt i (by omega)]
    simp [strsV, hx]
  clear hB1 how HC HN
  have c0 := unhide HCELL 0 [100] (by rw [hWW]; rfl)
  have c1 := unhide HCELL 1 x1 (by rw [hWW]; rfl)
  have hlen : W.length = 2 := by rw [hWW]; rfl
  have HST : Hid (stepO l (stepW W) = match numV x1 with | some k => stepR l (.del k) | none => none) := by
    show _ = _
    rw [hWW]
    simp only [stepW, if_true, stepO]
    cases numV x1 <;> rfl
  rw [hlen]
  clear HCELL hWW hlen
  have HCT : Hid (∀ wx, Calls Tryz.prog 43 #[.string (mk x1)] wx fun e w' => e = .returned (.int .i64 (cntR (numV x1))) ∧ w' = wx) := fun wx => refCount_any (mk x1) wx (by rw [mk_size]; omega)
  have hcb := cntR_bd x1
  have he100 : ((mk [100]).toList == [100]) = true := by rw [mk_eq]; rfl
  have HNUM : Hid ((cntR (numV x1) = -1 ∧ numV x1 = none) ∨ ∃ k : Nat, numV x1 = some k ∧ cntR (numV x1) = (k : Int)) := by
    cases h : numV x1 with
    | none => exact .inl ⟨rfl, rfl⟩
    | some k => exact .inr ⟨k, rfl, rfl⟩
  generalize cntR (numV x1) = c at *
  generalize mk x1 = y1 at *
  generalize mk [100] = y0 at *
  go_wp2_with fail
  refine (unhide HCT _).mono ?_
  rintro e w1 ⟨rfl, hw⟩; have hw := hw.symm; subst hw
  go_wp2_with (first | (at_builtin; refine append_rws rfl _ _ rfl w1.heap.size (.slice none 0 0) (.slice (some ⟨g, 0, none⟩) l.length cap) [] l rfl rfl (World.ownsRow_nil _ _ _ _) (.inr ⟨g, 0, cap, rfl, unhide HN1⟩) (Nat.le_refl _) (by simp; omega) ?_) | fail)
  intro F v2 w2 hF ho2 hg2
  have hF2 : l = F := by first | exact hF.symm | (rw [hF]; rfl)
  clear hF
  subst hF2
  have HB2 : Hid (Below w.heap.size w w2) := below_appR (unhide HB1) (World.ownsRow_nil _ w.heap.size _ _) (Nat.le_refl _) hg2
  have hsz2 := hg2.size
  have HCL2 : Hid (∀ i, w2.cell? ⟨gw, i, none⟩ = w1.cell? ⟨gw, i, none⟩) := fun i => World.cell?_of_block (hg2.block gw hgw (by simp [Value.ownBlock]))
  rcases row_form ho2 with ⟨_, h0⟩ | ⟨g2, cap2, rfl, hg2'⟩
  · omega
  have HO2 := hide ho2
  have hlo2 := (ho2.lt g2 rfl).1
  have HCP2 := hide (own_capR ho2)
  clear ho2 hg2 HN1
  have d0 := (unhide HCL2 0).trans c0
  have d1 := (unhide HCL2 1).trans c1
  clear c0 c1 HCL2
  by_cases hc1 : c < 1
  · have HR : Hid (stepO l (stepW W) = none) := by
      show _ = _
      rw [unhide HST]
      rcases unhide HNUM with ⟨_, h⟩ | ⟨k, h, hk⟩
      · rw [h]
      · rw [h]; show stepR l (.del k) = none; rw [stepR, if_pos (.inl (by omega))]
    have hcc : c - 1 < 0 := by omega
    clear HST HNUM
    go_wp2_with fail
    go_ret2
    rw [unhide HR]
    exact ⟨unhide HB2, rfl⟩
  obtain ⟨k, hk, rfl⟩ : ∃ k : Nat, numV x1 = some k ∧ c = (k : Int) := by
    rcases unhide HNUM with ⟨h, _⟩ | ⟨k, h, hk⟩
    · omega
    · exact ⟨k, h, hk⟩
  have HST2 : Hid (stepO l (stepW W) = stepR l (.del k)) := by show _ = _; rw [unhide HST, hk]
  clear HST HNUM hk
  by_cases hkl : l.length < k
  · have HR : Hid (stepO l (stepW W) = none) := by show _ = _; rw [unhide HST2, stepR, if_pos (.inr hkl)]
    have hcc : ¬ (k : Int) - 1 < 0 := by omega
    have hcd : (l.length : Int) ≤ (k : Int) - 1 := by omega
    clear HST2
    go_wp2_with fail
    go_ret2
    rw [unhide HR]
    exact ⟨unhide HB2, rfl⟩
  obtain ⟨q, rfl⟩ : ∃ q, k = q + 1 := ⟨k - 1, by omega⟩
  have eq1 : (((q + 1 : Nat) : Int) - 1) = (q : Int) := by omega
  have hq : q < l.length := by omega
  have HR : Hid (stepO l (stepW W) = some (l.take q ++ ((l.drop (q + 1)).take (undR l q)).map Rw.down ++ l.drop (q + 1 + undR l q))) := by
    show _ = _; rw [unhide HST2, stepR, if_neg (by omega)]; rfl
  have hu := undR_le hq
  have HU := hide (fun wx h => under_any l q g2 cap2 wx hl hq h)
  have HRA2 := hide (RA.of_own (unhide HO2) hg2' rfl)
  have HGT : Hid (∀ j x, j < undR l q → l[q + 1 + j]? = some x → 1 ≤ x.deep) := fun j x hj hx => undR_deep hq hj hx
  clear HST2
  generalize undR l q = u at *
  have hcq : (((q + 1 : Nat) : Int)) = (q : Int) + 1 := by omega
  have hw0 : IntKind.i64.wrap (((q + 1 : Nat) : Int) - 1) = (q : Int) := by rw [eq1]; exact IntWalk.i64_in _ (by omega)
  clear hcb hc1 hkl
  go_wp2_with fail
  refine (unhide HU _ (unhide HRA2)).mono ?_
  rintro e w3 ⟨rfl, hB3⟩
  have hsz3 := hB3.size
  have HB3 : Hid (Below w.heap.size w w3) := (unhide HB2).trans (hB3.mono (by omega))
  have HO3 := hide (row_keep (unhide HO2) (hB3.block g2 hg2'))
  obtain ⟨B0, hb0, hb1⟩ : ∃ B0, B0 ≤ w1.heap.size ∧ w1.heap.size ≤ B0 := ⟨_, Nat.le_refl _, Nat.le_refl _⟩
  have hBeq : Hid (w1.heap.size = B0) := Nat.le_antisymm hb1 hb0
  rw [unhide hBeq] at HO3
  obtain ⟨i0, hi0, hz0, hz1', hz2⟩ := info_parts Tryz.infoRow
  have hcp := unhide HCP2
  have hcm2 : (cap2 : Int) ≤ 9223372036854775807 := by have := hcp.2; unfold maxLen at this; omega
  have hcp1 := hcp.1
  clear hB3 HU HRA2 HO2 d0 d1 hcp
  go_wp2_with fail
  go_loopw [9] (fun i wr => ∃ j : Nat, j ≤ u ∧ i = .int .i64 ((j : Int) + 1) ∧ wr.ownsRow B0 51 3 (.slice (some ⟨g2, 0, none⟩) l.length cap2) l.length (rwsCells (lifts l q j)) ∧ Below w.heap.size w wr ∧ g2 < wr.heap.size) (fun i _ => u + 1 - (intOf i).toNat)
  case atStart => exact ⟨0, Nat.zero_le _, rfl, by rw [lifts_zero]; exact unhide HO3, unhide HB3, by omega⟩
  case round =>
    obtain ⟨j, hj, rfl, ho4, hB4, hg4⟩ := hrel
    have HO4 := hide ho4
    have HB4 := hide hB4
    by_cases hju : j < u
    · obtain ⟨x, hx⟩ : ∃ x, l[q + 1 + j]? = some x := ⟨_, List.getElem?_eq_getElem (by omega)⟩
      have hra := RA.of_own (l := lifts l q j) (by rw [lifts_len]; exact ho4) hg4 (lifts_len l q j).symm
      obtain ⟨x0, x1, x2⟩ := hra.cell0 ((lifts_get (by omega)).trans hx)
      have hfz := RA.to_own ho4
      have hx1 := unhide HGT j x hju hx
      have hxd := hd x (List.mem_of_getElem? hx)
      have hix : ((q : Int) + ((j : Int) + 1)).toNat = q + 1 + j := by omega
      have hdn : ((x.deep : Int) - 1) = ((x.deep - 1 : Nat) : Int) := by omega
      have HDN := hide hdn
      have HO5 : Hid ((wr.setCell ⟨g2, (q + 1 + j) * 3, none⟩ (.int .i64 ((x.deep - 1 : Nat) : Int))).ownsRow B0 51 3 (.slice (some ⟨g2, 0, none⟩) l.length cap2) l.length (rwsCells (lifts l q (j + 1)))) := by
        show World.ownsRow _ _ _ _ _ _ _
        rw [← lifts_set hx]
        have e := rws_deep (lifts l q j) (q + 1 + j) x (x.deep - 1) ((lifts_get (by omega)).trans hx)
        rw [show x.down = ⟨x.deep - 1, x.inner, x.text⟩ from rfl, e]
        exact ((unhide HO4).stored ((q + 1 + j) * 3) (.int .i64 ((x.deep - 1 : Nat) : Int))).1
      have hlo4 := (ho4.lt g2 rfl).1
      clear ho4 hB4 hra hx hdn
      go_wp2_with fail
      go_roundw
      case rel => exact ⟨j + 1, by omega, by go_num, by rw [unhide HDN]; exact unhide HO5, (unhide HB4).setCell (p := ⟨g2, (q + 1 + j) * 3, none⟩) (by show w.heap.size ≤ g2; omega) _, by simp; omega⟩
      case measure => simp [intOf]; omega
    · have hje : j = u := by omega
      have hLl := lifts_len l q j
      have HDEL := hide (lifts_del l q u hq)
      have hlo4 := (ho4.lt g2 rfl).1
      have hfz := RA.to_own ho4
      have hcl4 := fun i (h : i < l.length * 3) => ho4.cellAt i h
      subst hje
      generalize lifts l q j = L at *
      obtain ⟨AD, hAD, hnews⟩ : ∃ AD : Addr, (if cap2 = q + 1 then some (⟨g2, 0, none⟩ : Addr) else some ⟨g2, (q + 1) * 3, none⟩) = some AD ∧ Hid (∀ i v, (rwsCells (L.drop (q + 1)))[i]? = some v → wr.drew.cell? (AD.add i) = some v) := by
        by_cases h : cap2 = q + 1
        · refine ⟨⟨g2, 0, none⟩, by simp [h], fun i v hv => ?_⟩
          rw [List.drop_of_length_le (by omega)] at hv
          simp [rwsCells] at hv
        · refine ⟨⟨g2, (q + 1) * 3, none⟩, by simp [h], fun i v hv => ?_⟩
          have hra := (RA.of_own (l := L) (by rw [hLl]; exact ho4) hg4 hLl.symm).drop (q + 1) (by omega)
          rw [radd_off]
          have := hra.at_ i v hv
          rw [Nat.zero_add] at this
          exact this
      have s1 : Hid ((rwsCells (L.drop (q + 1))).length = (l.length - (q + 1)) * 3) := by show _ = _; rw [rwsCells_len, List.length_drop, hLl]
      have s2 : Hid (∀ v ∈ rwsCells (L.drop (q + 1)), v.oneCell' = true) := rwsCells_cell _
      have s3 : Hid (∀ i, i < (rwsCells (L.drop (q + 1))).length → (wr.drew.cell? ⟨g2, 0 + q * 3 + i, none⟩).isSome = true ∧ wr.drew.frozen? ⟨g2, 0 + q * 3 + i, none⟩ = false) := by
        intro i hi
        rw [unhide s1] at hi
        refine ⟨?_, hfz _⟩
        show (wr.cell? _).isSome = true
        rw [Nat.zero_add, hcl4 (q * 3 + i) (by omega), List.getElem?_eq_getElem (by rw [rwsCells_len]; omega)]
        rfl
      have HFIN : Hid (RowsR w (stepO l (stepW W)) (.returned (.tuple #[.slice (some ⟨g2, 0, none⟩) (q + (l.length - (q + 1))) cap2, .bool true])) (wr.drew.setCells g2 (0 + q * 3) (rwsCells (L.drop (q + 1))))) := by
        show RowsR _ _ _ _
        rw [unhide HR, ← unhide HDEL]
        refine ⟨below_cells (by omega) _ _ _ (unhide HB4).drew, g2, cap2, ?_, ?_, ?_, (unhide HCP2).2⟩
        · rw [List.length_append, List.length_take, List.length_drop, hLl, Nat.min_eq_left (by omega)]
        · exact RA.moved (w := wr.drew) (unhide HO4).drew hLl.symm hg4 (by omega)
        · rw [List.length_append, List.length_take, List.length_drop, hLl]; omega
      have hqc : q ≤ cap2 := by omega
      have hwr : IntKind.i64.wrap ((q : Int) + 1) = (q : Int) + 1 := IntWalk.i64_in _ (by omega)
      have hp0 : (0 : Int) ≤ (q : Int) + 1 := by omega
      have hp1 : (q : Int) + 1 ≤ (l.length : Int) := by omega
      have hp2 : ((q : Int) + 1).toNat = q + 1 := by omega
      clear ho4 hB4 hfz hcl4 HDEL HR hLl
      generalize rwsCells (L.drop (q + 1)) = news at *
      go_wp2_with fail
      go_region_law (refine step_append_room rfl (.tmp 64) (.tmp 68) 25 rfl 51 i0 3 Tryz.underlying25 hi0 hz1' g2 0 q cap2 (by simp [Act.eval, Act.put]) AD (l.length - (q + 1)) (cap2 - (q + 1)) news (by simp [Act.eval, Act.put]) s1.out hnews.out s2.out (by omega) s3.out ?_)
      go_wp2_with fail
      go_ret2
      have hfin := unhide HFIN
      rw [Nat.zero_add (q * 3)] at hfin
      exact hfin

end Go.Proofs.YtdaneedflpfeaaaGreatDoor

namespace Go.Proofs.YtdaneedflpfeaaaGreatDoor
set_option maxRecDepth 100000
open Go.RowKit

theorem rw_set3 {w : World} {base g cap n : Nat} {l : List Rw} (h : w.ownsRow base 51 3 (.slice (some ⟨g, 0, none⟩) n cap) n (rwsCells l)) (i : Nat) (x : Rw) (hi : i < l.length) :
    (((w.setCell ⟨g, i * 3, none⟩ (.int .i64 (x.deep : Int))).setCell ⟨g, i * 3 + 1, none⟩ (.bool (!x.inner))).setCell ⟨g, i * 3 + 2, none⟩ (.string x.text)).ownsRow base 51 3 (.slice (some ⟨g, 0, none⟩) n cap) n (rwsCells (l.set i x)) := by
  have h1 := (h.stored (i * 3) (.int .i64 (x.deep : Int))).1
  have h2 := (h1.stored (i * 3 + 1) (.bool (!x.inner))).1
  have h3 := (h2.stored (i * 3 + 2) (.string x.text)).1
  rw [rws_set _ _ _ hi]
  exact h3
theorem RowsR.own {w0 w : World} {base g cap n : Nat} {l : List Rw} (h : w.ownsRow base 51 3 (.slice (some ⟨g, 0, none⟩) n cap) n (rwsCells l)) (hn : n = l.length) (hg : g < w.heap.size) (hb : Below w0.heap.size w0 w) : RowsR w0 (some l) (.returned (.tuple #[.slice (some ⟨g, 0, none⟩) n cap, .bool true])) w := by
  subst hn
  exact ⟨hb, g, cap, rfl, RA.of_own h hg rfl, (own_capR h).1, (own_capR h).2⟩
theorem below3 {w0 w : World} {g i : Nat} (hb : Below w0.heap.size w0 w) (hg : w0.heap.size ≤ g) (a b c : Value) : Below w0.heap.size w0 (((w.setCell ⟨g, i, none⟩ a).setCell ⟨g, i + 1, none⟩ b).setCell ⟨g, i + 2, none⟩ c) :=
  ((hb.setCell (p := ⟨g, i, none⟩) hg a).setCell (p := ⟨g, i + 1, none⟩) hg b).setCell (p := ⟨g, i + 2, none⟩) hg c

set_option maxHeartbeats 12800000 in
theorem stepRn_any (l : List Rw) (s : ByteArray) (W : List (List UInt8)) (x1 x2 : List UInt8) (g cap : Nat) (w : World) (hs : s.size ≤ 10000) (hW : splitL 32 s.data.toList = W) (hWW : W = [[114], x1, x2]) (hl1 : 1 ≤ l.length) (hl : l.length ≤ 1000000) (hz1 : x1.length ≤ 10000) (hz2 : x2.length ≤ 10000) (hn : RA w g 0 l) :
    Calls Tryz.prog 23 #[.slice (some ⟨g, 0, none⟩) l.length cap, .string s] w fun e w' => RowsR w (stepO l (stepW W)) e w' := by
  have HC : Hid (∀ wx, Calls Tryz.prog 22 #[.string s, .int .u8 32] wx fun e w' => Below wx.heap.size wx w' ∧ ∃ g cap, e = .returned (.slice (some ⟨g, 0, none⟩) W.length cap) ∧ g < w'.heap.size ∧ w'.ownsRow wx.heap.size 9 1 (.slice (some ⟨g, 0, none⟩) W.length cap) W.length (strsV W)) := fun wx => by
    have := cut_any s 32 wx (by omega)
    rw [hW] at this
    exact this
  have HN := hide hn
  have hgl := hn.lt
  clear hn hW
  go_enter Tryz.func23, Tryz.ntmps23
  go_wp2_with fail
  refine (unhide HC _).mono ?_
  rintro e w1 ⟨hB1, gw, capw, rfl, hgw, how⟩
  have hsz1 := hB1.size
  have HB1 := hide hB1
  have HN1 := hide ((unhide HN).below hB1 hgl)
  have HCELL : Hid (∀ i x, W[i]? = some x → w1.cell? ⟨gw, i, none⟩ = some (.string (mk x))) := fun i x hx => by
    have hi : i < W.length := by
      rcases Nat.lt_or_ge i W.length with h | h
      · exact h
      · rw [List.getElem?_eq_none h] at hx; cases hx
    rw [how.cellAt i (by omega)]
    simp [strsV, hx]
  clear hB1 how HC HN
  have c0 := unhide HCELL 0 [114] (by rw [hWW]; rfl)
  have c1 := unhide HCELL 1 x1 (by rw [hWW]; rfl)
  have c2 := unhide HCELL 2 x2 (by rw [hWW]; rfl)
  have hlen : W.length = 3 := by rw [hWW]; rfl
  have HST : Hid (stepO l (stepW W) = match numV x1, labV x2 with | some k, some lb => stepR l (.ren k lb.1 (mk lb.2)) | _, _ => none) := by
    show _ = _
    rw [hWW]
    simp only [stepW, if_true, stepO]
    cases numV x1 <;> cases labV x2 <;> rfl
  rw [hlen]
  clear HCELL hWW hlen
  have HCT : Hid (∀ wx, Calls Tryz.prog 43 #[.string (mk x1)] wx fun e w' => e = .returned (.int .i64 (cntR (numV x1))) ∧ w' = wx) := fun wx => refCount_any (mk x1) wx (by rw [mk_size]; omega)
  have HLB : Hid (∀ wx, Calls Tryz.prog 45 #[.string (mk x2)] wx fun e w' => e = .returned (.tuple #[.agg (rlabA (labV x2)), .bool (labV x2).isSome]) ∧ Below wx.heap.size wx w') := fun wx => labelled_any (mk x2) wx (by rw [mk_size]; omega)
  have hcb := cntR_bd x1
  have he114 : ((mk [114]).toList == [114]) = true := by rw [mk_eq]; rfl
  have HNUM : Hid ((cntR (numV x1) = -1 ∧ numV x1 = none) ∨ ∃ k : Nat, numV x1 = some k ∧ cntR (numV x1) = (k : Int)) := by
    cases h : numV x1 with
    | none => exact .inl ⟨rfl, rfl⟩
    | some k => exact .inr ⟨k, rfl, rfl⟩
  generalize cntR (numV x1) = c at *
  generalize labV x2 = lv at *
  generalize mk x1 = y1 at *
  generalize mk x2 = y2 at *
  generalize mk [114] = y0 at *
  go_wp2_with fail
  refine (unhide HCT _).mono ?_
  rintro e w1 ⟨rfl, hw⟩; have hw := hw.symm; subst hw
  go_wp2_with (first | (at_builtin; refine append_rws rfl _ _ rfl w1.heap.size (.slice none 0 0) (.slice (some ⟨g, 0, none⟩) l.length cap) [] l rfl rfl (World.ownsRow_nil _ _ _ _) (.inr ⟨g, 0, cap, rfl, unhide HN1⟩) (Nat.le_refl _) (by simp; omega) ?_) | fail)
  intro F v2 w2 hF ho2 hg2
  have hF2 : l = F := by first | exact hF.symm | (rw [hF]; rfl)
  clear hF
  subst hF2
  have HB2 : Hid (Below w.heap.size w w2) := below_appR (unhide HB1) (World.ownsRow_nil _ w.heap.size _ _) (Nat.le_refl _) hg2
  have hsz2 := hg2.size
  have HCL2 : Hid (∀ i, w2.cell? ⟨gw, i, none⟩ = w1.cell? ⟨gw, i, none⟩) := fun i => World.cell?_of_block (hg2.block gw hgw (by simp [Value.ownBlock]))
  rcases row_form ho2 with ⟨_, h0⟩ | ⟨g2, cap2, rfl, hg2'⟩
  · omega
  have HO2 := hide ho2
  have hlo2 := (ho2.lt g2 rfl).1
  have HCP2 := hide (own_capR ho2)
  clear ho2 hg2 HN1
  have d0 := (unhide HCL2 0).trans c0
  have d1 := (unhide HCL2 1).trans c1
  have d2 := (unhide HCL2 2).trans c2
  clear c0 c1 c2 HCL2
  go_wp2_with fail
  refine (unhide HLB _).mono ?_
  rintro e w3 ⟨he, hB3⟩
  have hsz3 := hB3.size
  have HB3 : Hid (Below w.heap.size w w3) := (unhide HB2).trans (hB3.mono (by omega))
  have ho3 := row_keep (unhide HO2) (hB3.block g2 hg2')
  have HO3 := hide ho3
  have hg3 : g2 < w3.heap.size := by omega
  clear hB3 HLB HO2
  cases lv with
  | none =>
    have he' : e = .returned (.tuple #[.agg #[.int .i64 0, .bool false, .string ⟨#[]⟩], .bool false]) := he
    subst he'
    have HR : Hid (stepO l (stepW W) = none) := by show _ = _; rw [unhide HST]; cases numV x1 <;> rfl
    clear he HST HNUM ho3
    go_wp2_with fail
    go_ret2
    rw [unhide HR]
    exact ⟨(unhide HB3).alloc (by omega) _, rfl⟩
  | some bt =>
    obtain ⟨b, tl⟩ := bt
    have he' : e = .returned (.tuple #[.agg #[.int .i64 0, .bool (!b), .string (mk tl)], .bool true]) := he
    subst he'
    clear he
    have HSTB : Hid (stepO l (stepW W) = match numV x1 with | some k => stepR l (.ren k b (mk tl)) | none => none) := by show _ = _; rw [unhide HST]; cases numV x1 <;> rfl
    clear HST
    generalize mk tl = t at *
    by_cases hc1 : c < 1
    · have HR : Hid (stepO l (stepW W) = none) := by
        show _ = _
        rw [unhide HSTB]
        rcases unhide HNUM with ⟨_, h⟩ | ⟨k, h, hk⟩
        · rw [h]
        · rw [h]; show stepR l (.ren k b t) = none; rw [stepR, if_pos (.inl (by omega))]
      have hcc : c - 1 < 0 := by omega
      clear HSTB HNUM ho3
      go_wp2_with fail
      go_ret2
      rw [unhide HR]
      exact ⟨(unhide HB3).alloc (by omega) _, rfl⟩
    obtain ⟨k, hk, rfl⟩ : ∃ k : Nat, numV x1 = some k ∧ c = (k : Int) := by
      rcases unhide HNUM with ⟨h, _⟩ | ⟨k, h, hk⟩
      · omega
      · exact ⟨k, h, hk⟩
    have HST2 : Hid (stepO l (stepW W) = stepR l (.ren k b t)) := by show _ = _; rw [unhide HSTB, hk]
    clear HSTB HNUM hk
    by_cases hkl : l.length < k
    · have HR : Hid (stepO l (stepW W) = none) := by show _ = _; rw [unhide HST2, stepR, if_pos (.inr hkl)]
      have hcc : ¬ (k : Int) - 1 < 0 := by omega
      have hcd : (l.length : Int) ≤ (k : Int) - 1 := by omega
      clear HST2 ho3
      go_wp2_with fail
      go_ret2
      rw [unhide HR]
      exact ⟨(unhide HB3).alloc (by omega) _, rfl⟩
    obtain ⟨q, rfl⟩ : ∃ q, k = q + 1 := ⟨k - 1, by omega⟩
    have eq1 : (((q + 1 : Nat) : Int) - 1) = (q : Int) := by omega
    have hq : q < l.length := by omega
    have hxq : l[q]? = some l[q] := List.getElem?_eq_getElem hq
    have HST3 : Hid (stepO l (stepW W) = if b = false ∧ 0 < undR l q then none else some (l.set q ⟨(l[q]).deep, b, t⟩)) := by
      show _ = _
      rw [unhide HST2]
      show stepR l (.ren (q + 1) b t) = _
      rw [stepR, if_neg (by omega)]
      simp only [Nat.add_sub_cancel, hxq]
    clear HST2 hc1 hkl
    obtain ⟨z0, z1, z2⟩ := (RA.of_own ho3 hg3 rfl).cell0 hxq
    have hfz := RA.to_own ho3
    clear hxq ho3
    generalize (l[q]'hq) = x at *
    cases b with
    | true =>
      have HR := hide ((unhide HST3).trans (if_neg (by simp)))
      clear HST3
      go_wp2_with fail
      go_ret2
      rw [unhide HR]
      first
        | exact RowsR.own (by exact rw_set3 ((unhide HO3).alloc _) q ⟨x.deep, true, t⟩ hq) (by rw [List.length_set]) (by simp; omega) (below3 ((unhide HB3).alloc (by omega) _) (by omega) _ _ _)
        | exact RowsR.own (by exact (rw_set3 (unhide HO3) q ⟨x.deep, true, t⟩ hq).alloc _) (by rw [List.length_set]) (by simp; omega) ((below3 (unhide HB3) (by omega) _ _ _).alloc (by simp; omega) _)
    | false =>
      have HNA : Hid (∀ o, RA (w3.alloc o) g2 0 l) := fun o => (RA.of_own (unhide HO3) hg3 rfl).heap (heap_alloc_old _ _ hg3)
      have HU := hide (fun wx h => under_any l q g2 cap2 wx hl hq h)
      go_wp2_with fail
      refine (unhide HU _ (unhide HNA _)).mono ?_
      rintro e w4 ⟨rfl, hB4⟩
      have hkb : w4.heap[w3.heap.size]? = some (.cells #[.int .i64 0, .bool true, .string t] 51 (0, 0)) := (hB4.block _ (by simp)).trans (heap_alloc_new _ _)
      have hsz4 : w3.heap.size < w4.heap.size := by have := hB4.size; simp at this; omega
      have HB4 : Hid (Below w.heap.size w w4) := ((unhide HB3).alloc (by omega) _).trans (hB4.mono (by simp; omega))
      have ho4 := row_keep (unhide HO3) ((hB4.block g2 (by simp; omega)).trans (heap_alloc_old _ _ hg3))
      have hcell4 := (RA.of_own ho4 (by omega) rfl)
      have e0 : ∀ i, w4.cell? ⟨g2, i, none⟩ = w3.cell? ⟨g2, i, none⟩ := fun i => World.cell?_of_block ((hB4.block g2 (by simp; omega)).trans (heap_alloc_old _ _ hg3))
      have t0 := (e0 (q * 3)).trans z0
      have t1 := (e0 (q * 3 + 1)).trans z1
      have t2 := (e0 (q * 3 + 2)).trans z2
      have hfz4 := RA.to_own ho4
      obtain ⟨p0, p1, p2, p3⟩ := rw_cells3 hkb
      have HO4 := hide ho4
      have HKB := hide hkb
      have hg4 : g2 < w4.heap.size := by omega
      clear hB4 hkb ho4 hcell4 e0 z0 z1 z2 hfz
      by_cases hz : 0 < undR l q
      · have HR := hide ((unhide HST3).trans (if_pos (by simp; omega)))
        clear HST3
        generalize undR l q = u at *
        go_wp2_with fail
        go_ret2
        rw [unhide HR]
        exact ⟨unhide HB4, rfl⟩
      · have HR := hide ((unhide HST3).trans (if_neg (by simp; omega)))
        have HO5 : Hid ((w4.setCell ⟨w3.heap.size, 0, none⟩ (.int .i64 (x.deep : Int))).ownsRow w1.heap.size 51 3 (.slice (some ⟨g2, 0, none⟩) l.length cap2) l.length (rwsCells l)) := row_keep (unhide HO4) (heap_setCell_other _ ⟨w3.heap.size, 0, none⟩ _ _ (by show g2 ≠ w3.heap.size; omega))
        have HB5 : Hid (Below w.heap.size w (w4.setCell ⟨w3.heap.size, 0, none⟩ (.int .i64 (x.deep : Int)))) := (unhide HB4).setCell (p := ⟨w3.heap.size, 0, none⟩) (by show w.heap.size ≤ w3.heap.size; omega) _
        clear HST3
        generalize undR l q = u at *
        go_wp2_with fail
        go_ret2
        rw [unhide HR]
        exact RowsR.own (by exact rw_set3 (unhide HO5) q ⟨x.deep, false, t⟩ hq) (by rw [List.length_set]) (by simp; omega) (below3 (unhide HB5) (by omega) _ _ _)

end Go.Proofs.YtdaneedflpfeaaaGreatDoor

namespace Go.Proofs.YtdaneedflpfeaaaGreatDoor
set_option maxRecDepth 100000
open Go.RowKit

theorem RowsR.up {w w1 w' : World} {o : Option (List Rw)} {e : Ending} (h : RowsR w1 o e w') (hb : Below w.heap.size w w1) : RowsR w o e w' :=
  ⟨hb.trans (h.1.mono hb.size), h.2⟩

set_option maxHeartbeats 4000000 in
theorem stepI_any (l : List Rw) (s : ByteArray) (W : List (List UInt8)) (x1 x2 x3 x4 : List UInt8) (g cap : Nat) (w : World) (hs : s.size ≤ 10000) (hW : splitL 32 s.data.toList = W) (hWW : W = [[105], x1, x2, x3, x4]) (hl1 : 1 ≤ l.length) (hl : l.length ≤ 1000000) (hd : ∀ x ∈ l, x.deep ≤ 1000000) (hz1 : x1.length ≤ 10000) (hz2 : x2.length ≤ 10000) (hz3 : x3.length ≤ 10000) (hz4 : x4.length ≤ 10000) (hn : RA w g 0 l) :
    Calls Tryz.prog 23 #[.slice (some ⟨g, 0, none⟩) l.length cap, .string s] w fun e w' => RowsR w (stepO l (stepW W)) e w' := by
  have HC : Hid (∀ wx, Calls Tryz.prog 22 #[.string s, .int .u8 32] wx fun e w' => Below wx.heap.size wx w' ∧ ∃ g cap, e = .returned (.slice (some ⟨g, 0, none⟩) W.length cap) ∧ g < w'.heap.size ∧ w'.ownsRow wx.heap.size 9 1 (.slice (some ⟨g, 0, none⟩) W.length cap) W.length (strsV W)) := fun wx => by
    have := cut_any s 32 wx (by omega)
    rw [hW] at this
    exact this
  have HN := hide hn
  have hgl := hn.lt
  clear hn hW
  go_enter Tryz.func23, Tryz.ntmps23
  go_wp2_with fail
  refine (unhide HC _).mono ?_
  rintro e w1 ⟨hB1, gw, capw, rfl, hgw, how⟩
  have hsz1 := hB1.size
  have HB1 := hide hB1
  have HN1 := hide ((unhide HN).below hB1 hgl)
  have HCELL : Hid (∀ i x, W[i]? = some x → w1.cell? ⟨gw, i, none⟩ = some (.string (mk x))) := fun i x hx => by
    have hi : i < W.length := by
      rcases Nat.lt_or_ge i W.length with h | h
      · exact h
      · rw [List.getElem?_eq_none h] at hx; cases hx
    rw [how.cellAt i (by omega)]
    simp [strsV, hx]
  clear hB1 how HC HN
  have c0 := unhide HCELL 0 [105] (by rw [hWW]; rfl)
  have c1 := unhide HCELL 1 x1 (by rw [hWW]; rfl)
  have c2 := unhide HCELL 2 x2 (by rw [hWW]; rfl)
  have c3 := unhide HCELL 3 x3 (by rw [hWW]; rfl)
  have c4 := unhide HCELL 4 x4 (by rw [hWW]; rfl)
  have hlen : W.length = 5 := by rw [hWW]; rfl
  have HST : Hid (stepO l (stepW W) = match numV x1, numV x2, numV x3, labV x4 with | some p, some i, some n, some lb => stepR l (.ins p i n lb.1 (mk lb.2)) | _, _, _, _ => none) := by
    show _ = _
    rw [hWW]
    simp only [stepW, if_true, stepO]
    cases numV x1 <;> cases numV x2 <;> cases numV x3 <;> cases labV x4 <;> rfl
  rw [hlen]
  clear HCELL hWW hlen
  have HCT : Hid (∀ wx, Calls Tryz.prog 43 #[.string (mk x1)] wx fun e w' => e = .returned (.int .i64 (cntR (numV x1))) ∧ w' = wx) := fun wx => refCount_any (mk x1) wx (by rw [mk_size]; omega)
  obtain ⟨cz, hcz⟩ : ∃ cz : ByteArray → Int, ∀ y, cz y = cntR (numV y.data.toList) := ⟨_, fun _ => rfl⟩
  have HCC : Hid (∀ y wx, (y = mk x2 ∨ y = mk x3) → Calls Tryz.prog 43 #[.string y] wx fun e w' => e = .returned (.int .i64 (cz y)) ∧ w' = wx) := fun y wx hy => by
    rw [hcz y]
    refine refCount_any y wx ?_
    rcases hy with rfl | rfl <;> (rw [mk_size]; omega)
  have hz2' : cz (mk x2) = cntR (numV x2) := hcz (mk x2)
  have hz3' : cz (mk x3) = cntR (numV x3) := hcz (mk x3)
  have HLB : Hid (∀ wx, Calls Tryz.prog 45 #[.string (mk x4)] wx fun e w' => e = .returned (.tuple #[.agg (rlabA (labV x4)), .bool (labV x4).isSome]) ∧ Below wx.heap.size wx w') := fun wx => labelled_any (mk x4) wx (by rw [mk_size]; omega)
  have hcb := cntR_bd x1
  have hcb2 := cntR_bd x2
  have hcb3 := cntR_bd x3
  rw [← hz2'] at hcb2
  rw [← hz3'] at hcb3
  have he105 : ((mk [105]).toList == [105]) = true := by rw [mk_eq]; rfl
  have HNUM : Hid ((cntR (numV x1) = -1 ∧ numV x1 = none) ∨ ∃ k : Nat, numV x1 = some k ∧ cntR (numV x1) = (k : Int)) := by
    cases h : numV x1 with
    | none => exact .inl ⟨rfl, rfl⟩
    | some k => exact .inr ⟨k, rfl, rfl⟩
  have HNUM2 : Hid ((cz (mk x2) = -1 ∧ numV x2 = none) ∨ ∃ k : Nat, numV x2 = some k ∧ cz (mk x2) = (k : Int) ∧ k ≤ 999999) := by
    rw [hz2']
    cases h : numV x2 with
    | none => exact .inl ⟨rfl, rfl⟩
    | some k => exact .inr ⟨k, rfl, rfl, numV_bd h⟩
  have HNUM3 : Hid ((cz (mk x3) = -1 ∧ numV x3 = none) ∨ ∃ k : Nat, numV x3 = some k ∧ cz (mk x3) = (k : Int) ∧ k ≤ 999999) := by
    rw [hz3']
    cases h : numV x3 with
    | none => exact .inl ⟨rfl, rfl⟩
    | some k => exact .inr ⟨k, rfl, rfl, numV_bd h⟩
  generalize cntR (numV x1) = cp at *
  clear hz2' hz3' hcz
  generalize labV x4 = lv at *
  generalize mk x1 = y1 at *
  generalize mk x2 = y2 at *
  generalize mk x3 = y3 at *
  generalize mk x4 = y4 at *
  generalize mk [105] = y0 at *
  go_wp2_with fail
  refine (unhide HCT _).mono ?_
  rintro e w1 ⟨rfl, hw⟩; have hw := hw.symm; subst hw
  go_wp2_with (first | (at_builtin; refine append_rws rfl _ _ rfl w1.heap.size (.slice none 0 0) (.slice (some ⟨g, 0, none⟩) l.length cap) [] l rfl rfl (World.ownsRow_nil _ _ _ _) (.inr ⟨g, 0, cap, rfl, unhide HN1⟩) (Nat.le_refl _) (by simp; omega) ?_) | fail)
  intro F v2 w2 hF ho2 hg2
  have hF2 : l = F := by first | exact hF.symm | (rw [hF]; rfl)
  clear hF
  subst hF2
  have HB2 : Hid (Below w.heap.size w w2) := below_appR (unhide HB1) (World.ownsRow_nil _ w.heap.size _ _) (Nat.le_refl _) hg2
  have hsz2 := hg2.size
  have HCL2 : Hid (∀ i, w2.cell? ⟨gw, i, none⟩ = w1.cell? ⟨gw, i, none⟩) := fun i => World.cell?_of_block (hg2.block gw hgw (by simp [Value.ownBlock]))
  rcases row_form ho2 with ⟨_, h0⟩ | ⟨g2, cap2, rfl, hg2'⟩
  · omega
  have HO2 := hide ho2
  have hlo2 := (ho2.lt g2 rfl).1
  have HCP2 := hide (own_capR ho2)
  clear ho2 hg2 HN1
  have d0 := (unhide HCL2 0).trans c0
  have d1 := (unhide HCL2 1).trans c1
  have d2 := (unhide HCL2 2).trans c2
  have d3 := (unhide HCL2 3).trans c3
  have d4 := (unhide HCL2 4).trans c4
  have hgw2 : gw < w2.heap.size := by omega
  clear c0 c1 c2 c3 c4 HCL2
  go_wp2_with fail
  refine (unhide HLB _).mono ?_
  rintro e w3 ⟨he, hB3⟩
  have hsz3 := hB3.size
  have HB3 : Hid (Below w.heap.size w w3) := (unhide HB2).trans (hB3.mono (by omega))
  have ho3 := row_keep (unhide HO2) (hB3.block g2 hg2')
  have HO3 := hide ho3
  have hg3 : g2 < w3.heap.size := by omega
  have hgw3 : gw < w3.heap.size := by omega
  have e3 : ∀ i, w3.cell? ⟨gw, i, none⟩ = w2.cell? ⟨gw, i, none⟩ := fun i => World.cell?_of_block (hB3.block gw hgw2)
  have f1 := (e3 1).trans d1
  have f2 := (e3 2).trans d2
  have f3 := (e3 3).trans d3
  clear hB3 HLB HO2 d0 d1 d2 d3 d4 e3 ho3
  cases lv with
  | none =>
    have he' : e = .returned (.tuple #[.agg #[.int .i64 0, .bool false, .string ⟨#[]⟩], .bool false]) := he
    subst he'
    have HR : Hid (stepO l (stepW W) = none) := by show _ = _; rw [unhide HST]; cases numV x1 <;> cases numV x2 <;> cases numV x3 <;> rfl
    clear he HST HNUM HNUM2 HNUM3
    go_wp2_with fail
    go_ret2
    rw [unhide HR]
    exact ⟨(unhide HB3).alloc (by omega) _, rfl⟩
  | some bt =>
    obtain ⟨b, tl⟩ := bt
    have he' : e = .returned (.tuple #[.agg #[.int .i64 0, .bool (!b), .string (mk tl)], .bool true]) := he
    subst he'
    clear he
    have HSTB : Hid (stepO l (stepW W) = match numV x1, numV x2, numV x3 with | some p, some i, some n => stepR l (.ins p i n b (mk tl)) | _, _, _ => none) := by show _ = _; rw [unhide HST]; cases numV x1 <;> cases numV x2 <;> cases numV x3 <;> rfl
    clear HST
    generalize mk tl = t at *
    by_cases hc1 : cp < 0
    · have HR : Hid (stepO l (stepW W) = none) := by
        show _ = _
        rw [unhide HSTB]
        rcases unhide HNUM with ⟨_, h⟩ | ⟨k, h, hk⟩
        · rw [h]
        · omega
      clear HSTB HNUM HNUM2 HNUM3
      go_wp2_with fail
      refine (unhide HCT _).mono ?_
      rintro e w1 ⟨rfl, hw⟩; have hw := hw.symm; subst hw
      go_wp2_with fail
      go_ret2
      rw [unhide HR]
      exact ⟨(unhide HB3).alloc (by omega) _, rfl⟩
    obtain ⟨p, hpn, rfl⟩ : ∃ k : Nat, numV x1 = some k ∧ cp = (k : Int) := by
      rcases unhide HNUM with ⟨h, _⟩ | ⟨k, h, hk⟩
      · omega
      · exact ⟨k, h, hk⟩
    have HST2 : Hid (stepO l (stepW W) = match numV x2, numV x3 with | some i, some n => (if l.length < p then none else insR l p i n b t) | _, _ => none) := by
      show _ = _
      rw [unhide HSTB, hpn]
      cases numV x2 <;> cases numV x3 <;> rfl
    clear HSTB HNUM hpn
    by_cases hpl : l.length < p
    · have HR : Hid (stepO l (stepW W) = none) := by show _ = _; rw [unhide HST2]; cases numV x2 <;> cases numV x3 <;> simp [hpl]
      have hcd : (l.length : Int) ≤ (p : Int) - 1 := by omega
      clear HST2 HNUM2 HNUM3
      go_wp2_with fail
      refine (unhide HCT _).mono ?_
      rintro e w1 ⟨rfl, hw⟩; have hw := hw.symm; subst hw
      go_wp2_with fail
      go_ret2
      rw [unhide HR]
      exact ⟨(unhide HB3).alloc (by omega) _, rfl⟩
    have hcd : ¬ (l.length : Int) ≤ (p : Int) - 1 := by omega
    have hcp2 := unhide HCP2
    have HINS : Hid (∀ wx, RA wx g2 0 l → Calls Tryz.prog 46 #[.slice (some ⟨g2, 0, none⟩) l.length cap2, .int .i64 ((p : Int) - 1), .int .i64 (cz y2), .int .i64 (cz y3), .agg #[.int .i64 0, .bool (!b), .string t]] wx fun e w' => RowsR wx (stepO l (stepW W)) e w') := fun wx hx => by
      rw [unhide HST2]
      rcases unhide HNUM2 with ⟨h1, h2⟩ | ⟨i, h2, h1, h3⟩
      · rw [h2]
        refine (inserted_neg _ _ (cz y2) (cz y3) (!b) t wx (.inl (by omega))).mono ?_
        rintro e w' ⟨rfl, hb⟩
        exact ⟨hb, rfl⟩
      · rcases unhide HNUM3 with ⟨h4, h5⟩ | ⟨n, h5, h4, h6⟩
        · rw [h5]
          refine (inserted_neg _ _ (cz y2) (cz y3) (!b) t wx (.inr ⟨by omega, by omega⟩)).mono ?_
          rintro e w' ⟨rfl, hb⟩
          refine ⟨hb, ?_⟩
          cases numV x2 <;> rfl
        · rw [h2, h5, h1, h4]
          simp only [if_neg hpl]
          exact inserted_any l p i n g2 cap2 b t wx hl hcp2.1 hcp2.2 (by omega) (by omega) (by omega) hd hx
    have HNA : Hid (∀ o, RA (w3.alloc o).drew g2 0 l) := fun o => (RA.of_own (unhide HO3) hg3 rfl).heap (heap_alloc_old _ _ hg3)
    have hw0 : IntKind.i64.wrap ((p : Int) - 1) = (p : Int) - 1 := IntWalk.i64_in _ (by omega)
    have HKEY : Hid (∀ wq : World, (∀ i, i < w3.heap.size + 1 → wq.heap[i]? = (w3.alloc (.cells #[.int .i64 0, .bool (!b), .string t] 51 (0, 0))).heap[i]?) → wq.cell? ⟨gw, 2, none⟩ = some (.string y2) ∧ wq.cell? ⟨gw, 3, none⟩ = some (.string y3) ∧ wq.cell? ⟨w3.heap.size, 0, none⟩ = some (.int .i64 0) ∧ wq.cell? ⟨w3.heap.size, 1, none⟩ = some (.bool (!b)) ∧ wq.cell? ⟨w3.heap.size, 2, none⟩ = some (.string t)) := fun wq hq => by
      have hk := (hq w3.heap.size (by omega)).trans (heap_alloc_new _ _)
      obtain ⟨r0, r1, r2, _⟩ := rw_cells3 hk
      have hgq : wq.heap[gw]? = w3.heap[gw]? := (hq gw (by omega)).trans (heap_alloc_old _ _ hgw3)
      exact ⟨(World.cell?_of_block hgq).trans f2, (World.cell?_of_block hgq).trans f3, r0, r1, r2⟩
    have HS0 := hide (unhide HKEY (w3.alloc (.cells #[.int .i64 0, .bool (!b), .string t] 51 (0, 0))).drew (fun i _ => rfl))
    clear HST2 HNUM2 HNUM3 hcp2
    cases ho : stepO l (stepW W) with
    | none =>
      rw [ho] at HINS
      have HHO := hide ho
      clear ho
      go_wp2_with fail
      refine (unhide HCT _).mono ?_
      rintro e w1 ⟨rfl, hw⟩; have hw := hw.symm; subst hw
      go_wp2_with fail
      go_region_held3 (fun wq => wq.cell? ⟨gw, 2, none⟩ = some (.string y2) ∧ wq.cell? ⟨gw, 3, none⟩ = some (.string y3) ∧ wq.cell? ⟨w3.heap.size, 0, none⟩ = some (.int .i64 0) ∧ wq.cell? ⟨w3.heap.size, 1, none⟩ = some (.bool (!b)) ∧ wq.cell? ⟨w3.heap.size, 2, none⟩ = some (.string t)) (first | exact unhide HS0 | exact unhide HS5) (first | (go_at_call 43; refine (unhide HCC _ _ (by first | exact .inl rfl | exact .inr rfl)).mono ?_; rintro e w1 ⟨rfl, hw⟩; have hw := hw.symm; subst hw) | (go_at_call 46; refine (unhide HINS _ (unhide HNA _)).mono ?_; rintro e w5 ⟨hB5, he5⟩; have he5' : e = .returned (.tuple #[.slice none 0 0, .bool false]) := he5; subst he5'; have HB5 : Hid (Below w.heap.size w w5) := (((unhide HB3).alloc (by omega) _).drew).trans (hB5.mono (by simp; omega)); have HS5 := hide (unhide HKEY w5 (fun i hi => hB5.block i (by simp; omega))); clear he5 hB5))
      all_goals go_wp2_with fail
      all_goals go_ret2
      all_goals rw [unhide HHO]
      all_goals exact ⟨unhide HB5, rfl⟩
    | some m =>
      rw [ho] at HINS
      have HHO := hide ho
      clear ho
      go_wp2_with fail
      refine (unhide HCT _).mono ?_
      rintro e w1 ⟨rfl, hw⟩; have hw := hw.symm; subst hw
      go_wp2_with fail
      go_region_held3 (fun wq => wq.cell? ⟨gw, 2, none⟩ = some (.string y2) ∧ wq.cell? ⟨gw, 3, none⟩ = some (.string y3) ∧ wq.cell? ⟨w3.heap.size, 0, none⟩ = some (.int .i64 0) ∧ wq.cell? ⟨w3.heap.size, 1, none⟩ = some (.bool (!b)) ∧ wq.cell? ⟨w3.heap.size, 2, none⟩ = some (.string t)) (first | exact unhide HS0 | exact unhide HS5) (first | (go_at_call 43; refine (unhide HCC _ _ (by first | exact .inl rfl | exact .inr rfl)).mono ?_; rintro e w1 ⟨rfl, hw⟩; have hw := hw.symm; subst hw) | (go_at_call 46; refine (unhide HINS _ (unhide HNA _)).mono ?_; rintro e w5 ⟨hB5, g5, cap5, rfl, hra5, hc5, hd5⟩; have HB5 : Hid (Below w.heap.size w w5) := (((unhide HB3).alloc (by omega) _).drew).trans (hB5.mono (by simp; omega)); have HRA5 := hide hra5; have HS5 := hide (unhide HKEY w5 (fun i hi => hB5.block i (by simp; omega))); clear hB5 hra5))
      all_goals go_wp2_with fail
      all_goals go_ret2
      all_goals rw [unhide HHO]
      all_goals exact ⟨unhide HB5, g5, cap5, rfl, unhide HRA5, hc5, hd5⟩

end Go.Proofs.YtdaneedflpfeaaaGreatDoor

namespace Go.Proofs.YtdaneedflpfeaaaGreatDoor
set_option maxRecDepth 100000
open Go.RowKit

/-- append(nil, no rows...): nil. -/
theorem append_nil0 {w : World} {ops : Array Oper} {rest : List Oper} {o : Oper} {a : Act} {Q : Exit → Act → World → Prop} (hgd : o.guard = none) (s x : Operand)
    (ho : o.op = .call { callee := .builtin .append, args := #[s, x], argTypes := #[25, 25] }) (g cap : Nat)
    (hs : a.eval s = .slice none 0 0) (hx : a.eval x = .slice (some ⟨g, 0, none⟩) 0 cap) (_hg : g < w.heap.size)
    (h : ∀ w', w.grownBy w' none → wpList Tryz.prog ops Q rest (a.put o.dst (.slice none 0 0)) w') : wpList Tryz.prog ops Q (o :: rest) a w := by
  obtain ⟨i0, hi, hz0, hz1, hz2⟩ := info_parts Tryz.infoRow
  refine wpList_append_own w hgd s x 25 ho w.heap.size 51 i0 (.agg #[.int .i64 0, .bool false, .string ⟨#[]⟩]) 3 32 Tryz.underlying25 hi hz0 hz1 hz2 rfl (by decide) (.slice none 0 0) 0 [] hs (World.ownsRow_nil _ _ _ _) ⟨g, 0, none⟩ 0 cap [] hx rfl (fun j u hu => by simp at hu) (fun u hu => by simp at hu) (by unfold maxLen; omega) (by omega) (Nat.le_refl _) ?_
  intro v' w' _ h2 h3
  have e := h3.2 ⟨rfl, rfl⟩
  subst e
  exact h w' h2

set_option maxHeartbeats 3200000 in
theorem stepNo1 (l : List Rw) (s : ByteArray) (W : List (List UInt8)) (g cap : Nat) (w : World) (hs : s.size ≤ 10000) (hW : splitL 32 s.data.toList = W) (hk : W.length = 1) (hno : stepW W = none) (hl1 : 1 ≤ l.length) (hl : l.length ≤ 1000000) (hn : RA w g 0 l) :
    Calls Tryz.prog 23 #[.slice (some ⟨g, 0, none⟩) l.length cap, .string s] w fun e w' => RowsR w (stepO l (stepW W)) e w' := by
  have HC : Hid (∀ wx, Calls Tryz.prog 22 #[.string s, .int .u8 32] wx fun e w' => Below wx.heap.size wx w' ∧ ∃ g cap, e = .returned (.slice (some ⟨g, 0, none⟩) W.length cap) ∧ g < w'.heap.size ∧ w'.ownsRow wx.heap.size 9 1 (.slice (some ⟨g, 0, none⟩) W.length cap) W.length (strsV W)) := fun wx => by
    have := cut_any s 32 wx (by omega)
    rw [hW] at this
    exact this
  have HN := hide hn
  have hgl := hn.lt
  clear hn hW
  go_enter Tryz.func23, Tryz.ntmps23
  go_wp2_with fail
  refine (unhide HC _).mono ?_
  rintro e w1 ⟨hB1, gw, capw, rfl, hgw, how⟩
  have hsz1 := hB1.size
  have HB1 := hide hB1
  have HN1 := hide ((unhide HN).below hB1 hgl)
  have HCELL : Hid (∀ i x, W[i]? = some x → w1.cell? ⟨gw, i, none⟩ = some (.string (mk x))) := fun i x hx => by
    have hi : i < W.length := by
      rcases Nat.lt_or_ge i W.length with h | h
      · exact h
      · rw [List.getElem?_eq_none h] at hx; cases hx
    rw [how.cellAt i (by omega)]
    simp [strsV, hx]
  clear hB1 how HC HN
  have HR : Hid (stepO l (stepW W) = none) := by show _ = _; rw [hno]; rfl
  rw [hk]
  clear HCELL hno
  go_wp2_with (first | (at_builtin; refine append_rws rfl _ _ rfl w1.heap.size (.slice none 0 0) (.slice (some ⟨g, 0, none⟩) l.length cap) [] l rfl rfl (World.ownsRow_nil _ _ _ _) (.inr ⟨g, 0, cap, rfl, unhide HN1⟩) (Nat.le_refl _) (by simp; omega) ?_) | fail)
  intro F v2 w2 hF ho2 hg2
  have hF2 : l = F := by first | exact hF.symm | (rw [hF]; rfl)
  clear hF
  subst hF2
  have HB2 : Hid (Below w.heap.size w w2) := below_appR (unhide HB1) (World.ownsRow_nil _ w.heap.size _ _) (Nat.le_refl _) hg2
  have hsz2 := hg2.size
  have HCL2 : Hid (∀ i, w2.cell? ⟨gw, i, none⟩ = w1.cell? ⟨gw, i, none⟩) := fun i => World.cell?_of_block (hg2.block gw hgw (by simp [Value.ownBlock]))
  rcases row_form ho2 with ⟨_, h0⟩ | ⟨g2, cap2, rfl, hg2'⟩
  · omega
  have HO2 := hide ho2
  have hlo2 := (ho2.lt g2 rfl).1
  have HCP2 := hide (own_capR ho2)
  clear ho2 hg2 HN1
  go_wp2_with fail
  go_ret2
  rw [unhide HR]
  exact ⟨unhide HB2, rfl⟩
set_option maxHeartbeats 3200000 in
theorem stepNo2 (l : List Rw) (s : ByteArray) (W : List (List UInt8)) (g cap : Nat) (w : World) (hs : s.size ≤ 10000) (hW : splitL 32 s.data.toList = W) (hk : W.length = 2) (hno : stepW W = none) (x0 : List UInt8) (h0 : W[0]? = some x0) (hx0 : x0 ≠ [100]) (x1 : List UInt8) (h1 : W[1]? = some x1) (hz1 : x1.length ≤ 10000) (hl1 : 1 ≤ l.length) (hl : l.length ≤ 1000000) (hn : RA w g 0 l) :
    Calls Tryz.prog 23 #[.slice (some ⟨g, 0, none⟩) l.length cap, .string s] w fun e w' => RowsR w (stepO l (stepW W)) e w' := by
  have HC : Hid (∀ wx, Calls Tryz.prog 22 #[.string s, .int .u8 32] wx fun e w' => Below wx.heap.size wx w' ∧ ∃ g cap, e = .returned (.slice (some ⟨g, 0, none⟩) W.length cap) ∧ g < w'.heap.size ∧ w'.ownsRow wx.heap.size 9 1 (.slice (some ⟨g, 0, none⟩) W.length cap) W.length (strsV W)) := fun wx => by
    have := cut_any s 32 wx (by omega)
    rw [hW] at this
    exact this
  have HN := hide hn
  have hgl := hn.lt
  clear hn hW
  go_enter Tryz.func23, Tryz.ntmps23
  go_wp2_with fail
  refine (unhide HC _).mono ?_
  rintro e w1 ⟨hB1, gw, capw, rfl, hgw, how⟩
  have hsz1 := hB1.size
  have HB1 := hide hB1
  have HN1 := hide ((unhide HN).below hB1 hgl)
  have HCELL : Hid (∀ i x, W[i]? = some x → w1.cell? ⟨gw, i, none⟩ = some (.string (mk x))) := fun i x hx => by
    have hi : i < W.length := by
      rcases Nat.lt_or_ge i W.length with h | h
      · exact h
      · rw [List.getElem?_eq_none h] at hx; cases hx
    rw [how.cellAt i (by omega)]
    simp [strsV, hx]
  clear hB1 how HC HN
  have HR : Hid (stepO l (stepW W) = none) := by show _ = _; rw [hno]; rfl
  have c0 := unhide HCELL 0 x0 h0
  have c1 := unhide HCELL 1 x1 h1
  have HCT : Hid (∀ wx, Calls Tryz.prog 43 #[.string (mk x1)] wx fun e w' => e = .returned (.int .i64 (cntR (numV x1))) ∧ w' = wx) := fun wx => refCount_any (mk x1) wx (by rw [mk_size]; omega)
  have hcb := cntR_bd x1
  generalize cntR (numV x1) = c at *
  generalize mk x1 = y1 at *
  have he : ((mk x0).toList == [100]) = false := by rw [mk_eq]; simp [hx0]
  generalize mk x0 = y0 at *
  rw [hk]
  clear HCELL hno
  go_wp2_with fail
  refine (unhide HCT _).mono ?_
  rintro e w1 ⟨rfl, hw⟩; have hw := hw.symm; subst hw
  go_wp2_with (first | (at_builtin; refine append_rws rfl _ _ rfl w1.heap.size (.slice none 0 0) (.slice (some ⟨g, 0, none⟩) l.length cap) [] l rfl rfl (World.ownsRow_nil _ _ _ _) (.inr ⟨g, 0, cap, rfl, unhide HN1⟩) (Nat.le_refl _) (by simp; omega) ?_) | fail)
  intro F v2 w2 hF ho2 hg2
  have hF2 : l = F := by first | exact hF.symm | (rw [hF]; rfl)
  clear hF
  subst hF2
  have HB2 : Hid (Below w.heap.size w w2) := below_appR (unhide HB1) (World.ownsRow_nil _ w.heap.size _ _) (Nat.le_refl _) hg2
  have hsz2 := hg2.size
  have HCL2 : Hid (∀ i, w2.cell? ⟨gw, i, none⟩ = w1.cell? ⟨gw, i, none⟩) := fun i => World.cell?_of_block (hg2.block gw hgw (by simp [Value.ownBlock]))
  rcases row_form ho2 with ⟨_, h0⟩ | ⟨g2, cap2, rfl, hg2'⟩
  · omega
  have HO2 := hide ho2
  have hlo2 := (ho2.lt g2 rfl).1
  have HCP2 := hide (own_capR ho2)
  clear ho2 hg2 HN1
  have d0 := (unhide HCL2 0).trans c0
  go_wp2_with fail
  go_ret2
  rw [unhide HR]
  exact ⟨unhide HB2, rfl⟩
set_option maxHeartbeats 3200000 in
theorem stepNo3 (l : List Rw) (s : ByteArray) (W : List (List UInt8)) (g cap : Nat) (w : World) (hs : s.size ≤ 10000) (hW : splitL 32 s.data.toList = W) (hk : W.length = 3) (hno : stepW W = none) (x0 : List UInt8) (h0 : W[0]? = some x0) (hx0 : x0 ≠ [114]) (x1 : List UInt8) (h1 : W[1]? = some x1) (hz1 : x1.length ≤ 10000) (hl1 : 1 ≤ l.length) (hl : l.length ≤ 1000000) (hn : RA w g 0 l) :
    Calls Tryz.prog 23 #[.slice (some ⟨g, 0, none⟩) l.length cap, .string s] w fun e w' => RowsR w (stepO l (stepW W)) e w' := by
  have HC : Hid (∀ wx, Calls Tryz.prog 22 #[.string s, .int .u8 32] wx fun e w' => Below wx.heap.size wx w' ∧ ∃ g cap, e = .returned (.slice (some ⟨g, 0, none⟩) W.length cap) ∧ g < w'.heap.size ∧ w'.ownsRow wx.heap.size 9 1 (.slice (some ⟨g, 0, none⟩) W.length cap) W.length (strsV W)) := fun wx => by
    have := cut_any s 32 wx (by omega)
    rw [hW] at this
    exact this
  have HN := hide hn
  have hgl := hn.lt
  clear hn hW
  go_enter Tryz.func23, Tryz.ntmps23
  go_wp2_with fail
  refine (unhide HC _).mono ?_
  rintro e w1 ⟨hB1, gw, capw, rfl, hgw, how⟩
  have hsz1 := hB1.size
  have HB1 := hide hB1
  have HN1 := hide ((unhide HN).below hB1 hgl)
  have HCELL : Hid (∀ i x, W[i]? = some x → w1.cell? ⟨gw, i, none⟩ = some (.string (mk x))) := fun i x hx => by
    have hi : i < W.length := by
      rcases Nat.lt_or_ge i W.length with h | h
      · exact h
      · rw [List.getElem?_eq_none h] at hx; cases hx
    rw [how.cellAt i (by omega)]
    simp [strsV, hx]
  clear hB1 how HC HN
  have HR : Hid (stepO l (stepW W) = none) := by show _ = _; rw [hno]; rfl
  have c0 := unhide HCELL 0 x0 h0
  have c1 := unhide HCELL 1 x1 h1
  have HCT : Hid (∀ wx, Calls Tryz.prog 43 #[.string (mk x1)] wx fun e w' => e = .returned (.int .i64 (cntR (numV x1))) ∧ w' = wx) := fun wx => refCount_any (mk x1) wx (by rw [mk_size]; omega)
  have hcb := cntR_bd x1
  generalize cntR (numV x1) = c at *
  generalize mk x1 = y1 at *
  have he : ((mk x0).toList == [114]) = false := by rw [mk_eq]; simp [hx0]
  generalize mk x0 = y0 at *
  rw [hk]
  clear HCELL hno
  go_wp2_with fail
  refine (unhide HCT _).mono ?_
  rintro e w1 ⟨rfl, hw⟩; have hw := hw.symm; subst hw
  go_wp2_with (first | (at_builtin; refine append_rws rfl _ _ rfl w1.heap.size (.slice none 0 0) (.slice (some ⟨g, 0, none⟩) l.length cap) [] l rfl rfl (World.ownsRow_nil _ _ _ _) (.inr ⟨g, 0, cap, rfl, unhide HN1⟩) (Nat.le_refl _) (by simp; omega) ?_) | fail)
  intro F v2 w2 hF ho2 hg2
  have hF2 : l = F := by first | exact hF.symm | (rw [hF]; rfl)
  clear hF
  subst hF2
  have HB2 : Hid (Below w.heap.size w w2) := below_appR (unhide HB1) (World.ownsRow_nil _ w.heap.size _ _) (Nat.le_refl _) hg2
  have hsz2 := hg2.size
  have HCL2 : Hid (∀ i, w2.cell? ⟨gw, i, none⟩ = w1.cell? ⟨gw, i, none⟩) := fun i => World.cell?_of_block (hg2.block gw hgw (by simp [Value.ownBlock]))
  rcases row_form ho2 with ⟨_, h0⟩ | ⟨g2, cap2, rfl, hg2'⟩
  · omega
  have HO2 := hide ho2
  have hlo2 := (ho2.lt g2 rfl).1
  have HCP2 := hide (own_capR ho2)
  clear ho2 hg2 HN1
  have d0 := (unhide HCL2 0).trans c0
  go_wp2_with fail
  go_ret2
  rw [unhide HR]
  exact ⟨unhide HB2, rfl⟩
set_option maxHeartbeats 3200000 in
theorem stepNo5 (l : List Rw) (s : ByteArray) (W : List (List UInt8)) (g cap : Nat) (w : World) (hs : s.size ≤ 10000) (hW : splitL 32 s.data.toList = W) (hk : W.length = 5) (hno : stepW W = none) (x0 : List UInt8) (h0 : W[0]? = some x0) (hx0 : x0 ≠ [105]) (x1 : List UInt8) (h1 : W[1]? = some x1) (hz1 : x1.length ≤ 10000) (hl1 : 1 ≤ l.length) (hl : l.length ≤ 1000000) (hn : RA w g 0 l) :
    Calls Tryz.prog 23 #[.slice (some ⟨g, 0, none⟩) l.length cap, .string s] w fun e w' => RowsR w (stepO l (stepW W)) e w' := by
  have HC : Hid (∀ wx, Calls Tryz.prog 22 #[.string s, .int .u8 32] wx fun e w' => Below wx.heap.size wx w' ∧ ∃ g cap, e = .returned (.slice (some ⟨g, 0, none⟩) W.length cap) ∧ g < w'.heap.size ∧ w'.ownsRow wx.heap.size 9 1 (.slice (some ⟨g, 0, none⟩) W.length cap) W.length (strsV W)) := fun wx => by
    have := cut_any s 32 wx (by omega)
    rw [hW] at this
    exact this
  have HN := hide hn
  have hgl := hn.lt
  clear hn hW
  go_enter Tryz.func23, Tryz.ntmps23
  go_wp2_with fail
  refine (unhide HC _).mono ?_
  rintro e w1 ⟨hB1, gw, capw, rfl, hgw, how⟩
  have hsz1 := hB1.size
  have HB1 := hide hB1
  have HN1 := hide ((unhide HN).below hB1 hgl)
  have HCELL : Hid (∀ i x, W[i]? = some x → w1.cell? ⟨gw, i, none⟩ = some (.string (mk x))) := fun i x hx => by
    have hi : i < W.length := by
      rcases Nat.lt_or_ge i W.length with h | h
      · exact h
      · rw [List.getElem?_eq_none h] at hx; cases hx
    rw [how.cellAt i (by omega)]
    simp [strsV, hx]
  clear hB1 how HC HN
  have HR : Hid (stepO l (stepW W) = none) := by show _ = _; rw [hno]; rfl
  have c0 := unhide HCELL 0 x0 h0
  have c1 := unhide HCELL 1 x1 h1
  have HCT : Hid (∀ wx, Calls Tryz.prog 43 #[.string (mk x1)] wx fun e w' => e = .returned (.int .i64 (cntR (numV x1))) ∧ w' = wx) := fun wx => refCount_any (mk x1) wx (by rw [mk_size]; omega)
  have hcb := cntR_bd x1
  generalize cntR (numV x1) = c at *
  generalize mk x1 = y1 at *
  have he : ((mk x0).toList == [105]) = false := by rw [mk_eq]; simp [hx0]
  generalize mk x0 = y0 at *
  rw [hk]
  clear HCELL hno
  go_wp2_with fail
  refine (unhide HCT _).mono ?_
  rintro e w1 ⟨rfl, hw⟩; have hw := hw.symm; subst hw
  go_wp2_with (first | (at_builtin; refine append_rws rfl _ _ rfl w1.heap.size (.slice none 0 0) (.slice (some ⟨g, 0, none⟩) l.length cap) [] l rfl rfl (World.ownsRow_nil _ _ _ _) (.inr ⟨g, 0, cap, rfl, unhide HN1⟩) (Nat.le_refl _) (by simp; omega) ?_) | fail)
  intro F v2 w2 hF ho2 hg2
  have hF2 : l = F := by first | exact hF.symm | (rw [hF]; rfl)
  clear hF
  subst hF2
  have HB2 : Hid (Below w.heap.size w w2) := below_appR (unhide HB1) (World.ownsRow_nil _ w.heap.size _ _) (Nat.le_refl _) hg2
  have hsz2 := hg2.size
  have HCL2 : Hid (∀ i, w2.cell? ⟨gw, i, none⟩ = w1.cell? ⟨gw, i, none⟩) := fun i => World.cell?_of_block (hg2.block gw hgw (by simp [Value.ownBlock]))
  rcases row_form ho2 with ⟨_, h0⟩ | ⟨g2, cap2, rfl, hg2'⟩
  · omega
  have HO2 := hide ho2
  have hlo2 := (ho2.lt g2 rfl).1
  have HCP2 := hide (own_capR ho2)
  clear ho2 hg2 HN1
  have d0 := (unhide HCL2 0).trans c0
  go_wp2_with fail
  go_ret2
  rw [unhide HR]
  exact ⟨unhide HB2, rfl⟩
set_option maxHeartbeats 3200000 in
theorem stepNox (l : List Rw) (s : ByteArray) (W : List (List UInt8)) (g cap : Nat) (w : World) (hs : s.size ≤ 10000) (hW : splitL 32 s.data.toList = W) (hk : 1 < W.length) (n2 : ((W.length : Int) == 2) = false) (n3 : ((W.length : Int) == 3) = false) (n5 : ((W.length : Int) == 5) = false) (hno : stepW W = none) (x1 : List UInt8) (h1 : W[1]? = some x1) (hz1 : x1.length ≤ 10000) (hl1 : 1 ≤ l.length) (hl : l.length ≤ 1000000) (hn : RA w g 0 l) :
    Calls Tryz.prog 23 #[.slice (some ⟨g, 0, none⟩) l.length cap, .string s] w fun e w' => RowsR w (stepO l (stepW W)) e w' := by
  have HC : Hid (∀ wx, Calls Tryz.prog 22 #[.string s, .int .u8 32] wx fun e w' => Below wx.heap.size wx w' ∧ ∃ g cap, e = .returned (.slice (some ⟨g, 0, none⟩) W.length cap) ∧ g < w'.heap.size ∧ w'.ownsRow wx.heap.size 9 1 (.slice (some ⟨g, 0, none⟩) W.length cap) W.length (strsV W)) := fun wx => by
    have := cut_any s 32 wx (by omega)
    rw [hW] at this
    exact this
  have HN := hide hn
  have hgl := hn.lt
  clear hn hW
  go_enter Tryz.func23, Tryz.ntmps23
  go_wp2_with fail
  refine (unhide HC _).mono ?_
  rintro e w1 ⟨hB1, gw, capw, rfl, hgw, how⟩
  have hsz1 := hB1.size
  have HB1 := hide hB1
  have HN1 := hide ((unhide HN).below hB1 hgl)
  have HCELL : Hid (∀ i x, W[i]? = some x → w1.cell? ⟨gw, i, none⟩ = some (.string (mk x))) := fun i x hx => by
    have hi : i < W.length := by
      rcases Nat.lt_or_ge i W.length with h | h
      · exact h
      · rw [List.getElem?_eq_none h] at hx; cases hx
    rw [how.cellAt i (by omega)]
    simp [strsV, hx]
  clear hB1 how HC HN
  have HR : Hid (stepO l (stepW W) = none) := by show _ = _; rw [hno]; rfl
  have c1 := unhide HCELL 1 x1 h1
  have HCT : Hid (∀ wx, Calls Tryz.prog 43 #[.string (mk x1)] wx fun e w' => e = .returned (.int .i64 (cntR (numV x1))) ∧ w' = wx) := fun wx => refCount_any (mk x1) wx (by rw [mk_size]; omega)
  have hcb := cntR_bd x1
  generalize cntR (numV x1) = c at *
  generalize mk x1 = y1 at *
  have hk1 : (1 : Int) < (W.length : Int) := by omega
  generalize W.length = wl at *
  clear HCELL hno
  go_wp2_with fail
  refine (unhide HCT _).mono ?_
  rintro e w1 ⟨rfl, hw⟩; have hw := hw.symm; subst hw
  go_wp2_with (first | (at_builtin; refine append_rws rfl _ _ rfl w1.heap.size (.slice none 0 0) (.slice (some ⟨g, 0, none⟩) l.length cap) [] l rfl rfl (World.ownsRow_nil _ _ _ _) (.inr ⟨g, 0, cap, rfl, unhide HN1⟩) (Nat.le_refl _) (by simp; omega) ?_) | fail)
  intro F v2 w2 hF ho2 hg2
  have hF2 : l = F := by first | exact hF.symm | (rw [hF]; rfl)
  clear hF
  subst hF2
  have HB2 : Hid (Below w.heap.size w w2) := below_appR (unhide HB1) (World.ownsRow_nil _ w.heap.size _ _) (Nat.le_refl _) hg2
  have hsz2 := hg2.size
  have HCL2 : Hid (∀ i, w2.cell? ⟨gw, i, none⟩ = w1.cell? ⟨gw, i, none⟩) := fun i => World.cell?_of_block (hg2.block gw hgw (by simp [Value.ownBlock]))
  rcases row_form ho2 with ⟨_, h0⟩ | ⟨g2, cap2, rfl, hg2'⟩
  · omega
  have HO2 := hide ho2
  have hlo2 := (ho2.lt g2 rfl).1
  have HCP2 := hide (own_capR ho2)
  clear ho2 hg2 HN1
  go_wp2_with fail
  go_ret2
  rw [unhide HR]
  exact ⟨unhide HB2, rfl⟩
set_option maxHeartbeats 3200000 in
theorem stepNo1Nil (s : ByteArray) (W : List (List UInt8)) (g cap : Nat) (w : World) (hs : s.size ≤ 10000) (hW : splitL 32 s.data.toList = W) (hk : W.length = 1) (hno : stepW W = none) (hn : RA w g 0 []) :
    Calls Tryz.prog 23 #[.slice (some ⟨g, 0, none⟩) 0 cap, .string s] w fun e w' => RowsR w (stepO [] (stepW W)) e w' := by
  have HC : Hid (∀ wx, Calls Tryz.prog 22 #[.string s, .int .u8 32] wx fun e w' => Below wx.heap.size wx w' ∧ ∃ g cap, e = .returned (.slice (some ⟨g, 0, none⟩) W.length cap) ∧ g < w'.heap.size ∧ w'.ownsRow wx.heap.size 9 1 (.slice (some ⟨g, 0, none⟩) W.length cap) W.length (strsV W)) := fun wx => by
    have := cut_any s 32 wx (by omega)
    rw [hW] at this
    exact this
  have HN := hide hn
  have hgl := hn.lt
  clear hn hW
  go_enter Tryz.func23, Tryz.ntmps23
  go_wp2_with fail
  refine (unhide HC _).mono ?_
  rintro e w1 ⟨hB1, gw, capw, rfl, hgw, how⟩
  have hsz1 := hB1.size
  have HB1 := hide hB1
  have HN1 := hide ((unhide HN).below hB1 hgl)
  have HCELL : Hid (∀ i x, W[i]? = some x → w1.cell? ⟨gw, i, none⟩ = some (.string (mk x))) := fun i x hx => by
    have hi : i < W.length := by
      rcases Nat.lt_or_ge i W.length with h | h
      · exact h
      · rw [List.getElem?_eq_none h] at hx; cases hx
    rw [how.cellAt i (by omega)]
    simp [strsV, hx]
  clear hB1 how HC HN
  have HR : Hid (stepO [] (stepW W) = none) := by show _ = _; rw [hno]; rfl
  rw [hk]
  clear HCELL hno
  go_wp2_with (first | (at_builtin; refine append_nil0 rfl _ _ rfl g cap rfl rfl (unhide HN1).lt ?_) | fail)
  intro w2 hg2
  have HB2 : Hid (Below w.heap.size w w2) := (unhide HB1).grown hg2 (unhide HB1).size (fun k hk => by cases hk)
  have hsz2 := hg2.size
  have HCL2 : Hid (∀ i, w2.cell? ⟨gw, i, none⟩ = w1.cell? ⟨gw, i, none⟩) := fun i => World.cell?_of_block (hg2.block gw hgw (by simp))
  clear hg2 HN1
  go_wp2_with fail
  go_ret2
  rw [unhide HR]
  exact ⟨unhide HB2, rfl⟩
set_option maxHeartbeats 3200000 in
theorem stepNo2Nil (s : ByteArray) (W : List (List UInt8)) (g cap : Nat) (w : World) (hs : s.size ≤ 10000) (hW : splitL 32 s.data.toList = W) (hk : W.length = 2) (hno : stepW W = none) (x0 : List UInt8) (h0 : W[0]? = some x0) (hx0 : x0 ≠ [100]) (x1 : List UInt8) (h1 : W[1]? = some x1) (hz1 : x1.length ≤ 10000) (hn : RA w g 0 []) :
    Calls Tryz.prog 23 #[.slice (some ⟨g, 0, none⟩) 0 cap, .string s] w fun e w' => RowsR w (stepO [] (stepW W)) e w' := by
  have HC : Hid (∀ wx, Calls Tryz.prog 22 #[.string s, .int .u8 32] wx fun e w' => Below wx.heap.size wx w' ∧ ∃ g cap, e = .returned (.slice (some ⟨g, 0, none⟩) W.length cap) ∧ g < w'.heap.size ∧ w'.ownsRow wx.heap.size 9 1 (.slice (some ⟨g, 0, none⟩) W.length cap) W.length (strsV W)) := fun wx => by
    have := cut_any s 32 wx (by omega)
    rw [hW] at this
    exact this
  have HN := hide hn
  have hgl := hn.lt
  clear hn hW
  go_enter Tryz.func23, Tryz.ntmps23
  go_wp2_with fail
  refine (unhide HC _).mono ?_
  rintro e w1 ⟨hB1, gw, capw, rfl, hgw, how⟩
  have hsz1 := hB1.size
  have HB1 := hide hB1
  have HN1 := hide ((unhide HN).below hB1 hgl)
  have HCELL : Hid (∀ i x, W[i]? = some x → w1.cell? ⟨gw, i, none⟩ = some (.string (mk x))) := fun i x hx => by
    have hi : i < W.length := by
      rcases Nat.lt_or_ge i W.length with h | h
      · exact h
      · rw [List.getElem?_eq_none h] at hx; cases hx
    rw [how.cellAt i (by omega)]
    simp [strsV, hx]
  clear hB1 how HC HN
  have HR : Hid (stepO [] (stepW W) = none) := by show _ = _; rw [hno]; rfl
  have c0 := unhide HCELL 0 x0 h0
  have c1 := unhide HCELL 1 x1 h1
  have HCT : Hid (∀ wx, Calls Tryz.prog 43 #[.string (mk x1)] wx fun e w' => e = .returned (.int .i64 (cntR (numV x1))) ∧ w' = wx) := fun wx => refCount_any (mk x1) wx (by rw [mk_size]; omega)
  have hcb := cntR_bd x1
  generalize cntR (numV x1) = c at *
  generalize mk x1 = y1 at *
  have he : ((mk x0).toList == [100]) = false := by rw [mk_eq]; simp [hx0]
  generalize mk x0 = y0 at *
  rw [hk]
  clear HCELL hno
  go_wp2_with fail
  refine (unhide HCT _).mono ?_
  rintro e w1 ⟨rfl, hw⟩; have hw := hw.symm; subst hw
  go_wp2_with (first | (at_builtin; refine append_nil0 rfl _ _ rfl g cap rfl rfl (unhide HN1).lt ?_) | fail)
  intro w2 hg2
  have HB2 : Hid (Below w.heap.size w w2) := (unhide HB1).grown hg2 (unhide HB1).size (fun k hk => by cases hk)
  have hsz2 := hg2.size
  have HCL2 : Hid (∀ i, w2.cell? ⟨gw, i, none⟩ = w1.cell? ⟨gw, i, none⟩) := fun i => World.cell?_of_block (hg2.block gw hgw (by simp))
  clear hg2 HN1
  have d0 := (unhide HCL2 0).trans c0
  go_wp2_with fail
  go_ret2
  rw [unhide HR]
  exact ⟨unhide HB2, rfl⟩
set_option maxHeartbeats 3200000 in
theorem stepNo3Nil (s : ByteArray) (W : List (List UInt8)) (g cap : Nat) (w : World) (hs : s.size ≤ 10000) (hW : splitL 32 s.data.toList = W) (hk : W.length = 3) (hno : stepW W = none) (x0 : List UInt8) (h0 : W[0]? = some x0) (hx0 : x0 ≠ [114]) (x1 : List UInt8) (h1 : W[1]? = some x1) (hz1 : x1.length ≤ 10000) (hn : RA w g 0 []) :
    Calls Tryz.prog 23 #[.slice (some ⟨g, 0, none⟩) 0 cap, .string s] w fun e w' => RowsR w (stepO [] (stepW W)) e w' := by
  have HC : Hid (∀ wx, Calls Tryz.prog 22 #[.string s, .int .u8 32] wx fun e w' => Below wx.heap.size wx w' ∧ ∃ g cap, e = .returned (.slice (some ⟨g, 0, none⟩) W.length cap) ∧ g < w'.heap.size ∧ w'.ownsRow wx.heap.size 9 1 (.slice (some ⟨g, 0, none⟩) W.length cap) W.length (strsV W)) := fun wx => by
    have := cut_any s 32 wx (by omega)
    rw [hW] at this
    exact this
  have HN := hide hn
  have hgl := hn.lt
  clear hn hW
  go_enter Tryz.func23, Tryz.ntmps23
  go_wp2_with fail
  refine (unhide HC _).mono ?_
  rintro e w1 ⟨hB1, gw, capw, rfl, hgw, how⟩
  have hsz1 := hB1.size
  have HB1 := hide hB1
  have HN1 := hide ((unhide HN).below hB1 hgl)
  have HCELL : Hid (∀ i x, W[i]? = some x → w1.cell? ⟨gw, i, none⟩ = some (.string (mk x))) := fun i x hx => by
    have hi : i < W.length := by
      rcases Nat.lt_or_ge i W.length with h | h
      · exact h
      · rw [List.getElem?_eq_none h] at hx; cases hx
    rw [how.cellAt i (by omega)]
    simp [strsV, hx]
  clear hB1 how HC HN
  have HR : Hid (stepO [] (stepW W) = none) := by show _ = _; rw [hno]; rfl
  have c0 := unhide HCELL 0 x0 h0
  have c1 := unhide HCELL 1 x1 h1
  have HCT : Hid (∀ wx, Calls Tryz.prog 43 #[.string (mk x1)] wx fun e w' => e = .returned (.int .i64 (cntR (numV x1))) ∧ w' = wx) := fun wx => refCount_any (mk x1) wx (by rw [mk_size]; omega)
  have hcb := cntR_bd x1
  generalize cntR (numV x1) = c at *
  generalize mk x1 = y1 at *
  have he : ((mk x0).toList == [114]) = false := by rw [mk_eq]; simp [hx0]
  generalize mk x0 = y0 at *
  rw [hk]
  clear HCELL hno
  go_wp2_with fail
  refine (unhide HCT _).mono ?_
  rintro e w1 ⟨rfl, hw⟩; have hw := hw.symm; subst hw
  go_wp2_with (first | (at_builtin; refine append_nil0 rfl _ _ rfl g cap rfl rfl (unhide HN1).lt ?_) | fail)
  intro w2 hg2
  have HB2 : Hid (Below w.heap.size w w2) := (unhide HB1).grown hg2 (unhide HB1).size (fun k hk => by cases hk)
  have hsz2 := hg2.size
  have HCL2 : Hid (∀ i, w2.cell? ⟨gw, i, none⟩ = w1.cell? ⟨gw, i, none⟩) := fun i => World.cell?_of_block (hg2.block gw hgw (by simp))
  clear hg2 HN1
  have d0 := (unhide HCL2 0).trans c0
  go_wp2_with fail
  go_ret2
  rw [unhide HR]
  exact ⟨unhide HB2, rfl⟩
set_option maxHeartbeats 3200000 in
theorem stepNo5Nil (s : ByteArray) (W : List (List UInt8)) (g cap : Nat) (w : World) (hs : s.size ≤ 10000) (hW : splitL 32 s.data.toList = W) (hk : W.length = 5) (hno : stepW W = none) (x0 : List UInt8) (h0 : W[0]? = some x0) (hx0 : x0 ≠ [105]) (x1 : List UInt8) (h1 : W[1]? = some x1) (hz1 : x1.length ≤ 10000) (hn : RA w g 0 []) :
    Calls Tryz.prog 23 #[.slice (some ⟨g, 0, none⟩) 0 cap, .string s] w fun e w' => RowsR w (stepO [] (stepW W)) e w' := by
  have HC : Hid (∀ wx, Calls Tryz.prog 22 #[.string s, .int .u8 32] wx fun e w' => Below wx.heap.size wx w' ∧ ∃ g cap, e = .returned (.slice (some ⟨g, 0, none⟩) W.length cap) ∧ g < w'.heap.size ∧ w'.ownsRow wx.heap.size 9 1 (.slice (some ⟨g, 0, none⟩) W.length cap) W.length (strsV W)) := fun wx => by
    have := cut_any s 32 wx (by omega)
    rw [hW] at this
    exact this
  have HN := hide hn
  have hgl := hn.lt
  clear hn hW
  go_enter Tryz.func23, Tryz.ntmps23
  go_wp2_with fail
  refine (unhide HC _).mono ?_
  rintro e w1 ⟨hB1, gw, capw, rfl, hgw, how⟩
  have hsz1 := hB1.size
  have HB1 := hide hB1
  have HN1 := hide ((unhide HN).below hB1 hgl)
  have HCELL : Hid (∀ i x, W[i]? = some x → w1.cell? ⟨gw, i, none⟩ = some (.string (mk x))) := fun i x hx => by
    have hi : i < W.length := by
      rcases Nat.lt_or_ge i W.length with h | h
      · exact h
      · rw [List.getElem?_eq_none h] at hx; cases hx
    rw [how.cellAt i (by omega)]
    simp [strsV, hx]
  clear hB1 how HC HN
  have HR : Hid (stepO [] (stepW W) = none) := by show _ = _; rw [hno]; rfl
  have c0 := unhide HCELL 0 x0 h0
  have c1 := unhide HCELL 1 x1 h1
  have HCT : Hid (∀ wx, Calls Tryz.prog 43 #[.string (mk x1)] wx fun e w' => e = .returned (.int .i64 (cntR (numV x1))) ∧ w' = wx) := fun wx => refCount_any (mk x1) wx (by rw [mk_size]; omega)
  have hcb := cntR_bd x1
  generalize cntR (numV x1) = c at *
  generalize mk x1 = y1 at *
  have he : ((mk x0).toList == [105]) = false := by rw [mk_eq]; simp [hx0]
  generalize mk x0 = y0 at *
  rw [hk]
  clear HCELL hno
  go_wp2_with fail
  refine (unhide HCT _).mono ?_
  rintro e w1 ⟨rfl, hw⟩; have hw := hw.symm; subst hw
  go_wp2_with (first | (at_builtin; refine append_nil0 rfl _ _ rfl g cap rfl rfl (unhide HN1).lt ?_) | fail)
  intro w2 hg2
  have HB2 : Hid (Below w.heap.size w w2) := (unhide HB1).grown hg2 (unhide HB1).size (fun k hk => by cases hk)
  have hsz2 := hg2.size
  have HCL2 : Hid (∀ i, w2.cell? ⟨gw, i, none⟩ = w1.cell? ⟨gw, i, none⟩) := fun i => World.cell?_of_block (hg2.block gw hgw (by simp))
  clear hg2 HN1
  have d0 := (unhide HCL2 0).trans c0
  go_wp2_with fail
  go_ret2
  rw [unhide HR]
  exact ⟨unhide HB2, rfl⟩
set_option maxHeartbeats 3200000 in
theorem stepNoxNil (s : ByteArray) (W : List (List UInt8)) (g cap : Nat) (w : World) (hs : s.size ≤ 10000) (hW : splitL 32 s.data.toList = W) (hk : 1 < W.length) (n2 : ((W.length : Int) == 2) = false) (n3 : ((W.length : Int) == 3) = false) (n5 : ((W.length : Int) == 5) = false) (hno : stepW W = none) (x1 : List UInt8) (h1 : W[1]? = some x1) (hz1 : x1.length ≤ 10000) (hn : RA w g 0 []) :
    Calls Tryz.prog 23 #[.slice (some ⟨g, 0, none⟩) 0 cap, .string s] w fun e w' => RowsR w (stepO [] (stepW W)) e w' := by
  have HC : Hid (∀ wx, Calls Tryz.prog 22 #[.string s, .int .u8 32] wx fun e w' => Below wx.heap.size wx w' ∧ ∃ g cap, e = .returned (.slice (some ⟨g, 0, none⟩) W.length cap) ∧ g < w'.heap.size ∧ w'.ownsRow wx.heap.size 9 1 (.slice (some ⟨g, 0, none⟩) W.length cap) W.length (strsV W)) := fun wx => by
    have := cut_any s 32 wx (by omega)
    rw [hW] at this
    exact this
  have HN := hide hn
  have hgl := hn.lt
  clear hn hW
  go_enter Tryz.func23, Tryz.ntmps23
  go_wp2_with fail
  refine (unhide HC _).mono ?_
  rintro e w1 ⟨hB1, gw, capw, rfl, hgw, how⟩
  have hsz1 := hB1.size
  have HB1 := hide hB1
  have HN1 := hide ((unhide HN).below hB1 hgl)
  have HCELL : Hid (∀ i x, W[i]? = some x → w1.cell? ⟨gw, i, none⟩ = some (.string (mk x))) := fun i x hx => by
    have hi : i < W.length := by
      rcases Nat.lt_or_ge i W.length with h | h
      · exact h
      · rw [List.getElem?_eq_none h] at hx; cases hx
    rw [how.cellAt i (by omega)]
    simp [strsV, hx]
  clear hB1 how HC HN
  have HR : Hid (stepO [] (stepW W) = none) := by show _ = _; rw [hno]; rfl
  have c1 := unhide HCELL 1 x1 h1
  have HCT : Hid (∀ wx, Calls Tryz.prog 43 #[.string (mk x1)] wx fun e w' => e = .returned (.int .i64 (cntR (numV x1))) ∧ w' = wx) := fun wx => refCount_any (mk x1) wx (by rw [mk_size]; omega)
  have hcb := cntR_bd x1
  generalize cntR (numV x1) = c at *
  generalize mk x1 = y1 at *
  have hk1 : (1 : Int) < (W.length : Int) := by omega
  generalize W.length = wl at *
  clear HCELL hno
  go_wp2_with fail
  refine (unhide HCT _).mono ?_
  rintro e w1 ⟨rfl, hw⟩; have hw := hw.symm; subst hw
  go_wp2_with (first | (at_builtin; refine append_nil0 rfl _ _ rfl g cap rfl rfl (unhide HN1).lt ?_) | fail)
  intro w2 hg2
  have HB2 : Hid (Below w.heap.size w w2) := (unhide HB1).grown hg2 (unhide HB1).size (fun k hk => by cases hk)
  have hsz2 := hg2.size
  have HCL2 : Hid (∀ i, w2.cell? ⟨gw, i, none⟩ = w1.cell? ⟨gw, i, none⟩) := fun i => World.cell?_of_block (hg2.block gw hgw (by simp))
  clear hg2 HN1
  go_wp2_with fail
  go_ret2
  rw [unhide HR]
  exact ⟨unhide HB2, rfl⟩

end Go.Proofs.YtdaneedflpfeaaaGreatDoor

namespace Go.Proofs.YtdaneedflpfeaaaGreatDoor
set_option maxRecDepth 100000
open Go.RowKit

set_option maxHeartbeats 3200000 in
theorem stepDNil (s : ByteArray) (W : List (List UInt8)) (x1 : List UInt8) (g cap : Nat) (w : World) (hs : s.size ≤ 10000) (hW : splitL 32 s.data.toList = W) (hWW : W = [[100], x1]) (hz1 : x1.length ≤ 10000) (hn : RA w g 0 []) :
    Calls Tryz.prog 23 #[.slice (some ⟨g, 0, none⟩) 0 cap, .string s] w fun e w' => RowsR w (stepO [] (stepW W)) e w' := by
  have HC : Hid (∀ wx, Calls Tryz.prog 22 #[.string s, .int .u8 32] wx fun e w' => Below wx.heap.size wx w' ∧ ∃ g cap, e = .returned (.slice (some ⟨g, 0, none⟩) W.length cap) ∧ g < w'.heap.size ∧ w'.ownsRow wx.heap.size 9 1 (.slice (some ⟨g, 0, none⟩) W.length cap) W.length (strsV W)) := fun wx => by
    have := cut_any s 32 wx (by omega)
    rw [hW] at this
    exact this
  have HN := hide hn
  have hgl := hn.lt
  clear hn hW
  go_enter Tryz.func23, Tryz.ntmps23
  go_wp2_with fail
  refine (unhide HC _).mono ?_
  rintro e w1 ⟨hB1, gw, capw, rfl, hgw, how⟩
  have hsz1 := hB1.size
  have HB1 := hide hB1
  have HN1 := hide ((unhide HN).below hB1 hgl)
  have HCELL : Hid (∀ i x, W[i]? = some x → w1.cell? ⟨gw, i, none⟩ = some (.string (mk x))) := fun i x hx => by
    have hi : i < W.length := by
      rcases Nat.lt_or_ge i W.length with h | h
      · exact h
      · rw [List.getElem?_eq_none h] at hx; cases hx
    rw [how.cellAt i (by omega)]
    simp [strsV, hx]
  clear hB1 how HC HN
  have c0 := unhide HCELL 0 [100] (by rw [hWW]; rfl)
  have c1 := unhide HCELL 1 x1 (by rw [hWW]; rfl)
  have hlen : W.length = 2 := by rw [hWW]; rfl
  have HR : Hid (stepO [] (stepW W) = none) := by
    show _ = _
    rw [hWW]
    simp only [stepW, if_true, stepO]
    cases numV x1 with
    | none => rfl
    | some k => show stepR [] (.del k) = none; rw [stepR, if_pos (by simp; omega)]
  rw [hlen]
  clear HCELL hWW hlen
  have HCT : Hid (∀ wx, Calls Tryz.prog 43 #[.string (mk x1)] wx fun e w' => e = .returned (.int .i64 (cntR (numV x1))) ∧ w' = wx) := fun wx => refCount_any (mk x1) wx (by rw [mk_size]; omega)
  have hcb := cntR_bd x1
  have he100 : ((mk [100]).toList == [100]) = true := by rw [mk_eq]; rfl
  generalize cntR (numV x1) = c at *
  generalize mk x1 = y1 at *
  generalize mk [100] = y0 at *
  go_wp2_with fail
  refine (unhide HCT _).mono ?_
  rintro e w1 ⟨rfl, hw⟩; have hw := hw.symm; subst hw
  go_wp2_with (first | (at_builtin; refine append_nil0 rfl _ _ rfl g cap rfl rfl (unhide HN1).lt ?_) | fail)
  intro w2 hg2
  have HB2 : Hid (Below w.heap.size w w2) := (unhide HB1).grown hg2 (unhide HB1).size (fun k hk => by cases hk)
  have hsz2 := hg2.size
  have HCL2 : Hid (∀ i, w2.cell? ⟨gw, i, none⟩ = w1.cell? ⟨gw, i, none⟩) := fun i => World.cell?_of_block (hg2.block gw hgw (by simp))
  clear hg2 HN1
  have d0 := (unhide HCL2 0).trans c0
  by_cases hc1 : c - 1 < 0
  · go_wp2_with fail
    go_ret2
    rw [unhide HR]
    exact ⟨unhide HB2, rfl⟩
  · have hc2 : (0 : Int) ≤ c - 1 := by omega
    go_wp2_with fail
    go_ret2
    rw [unhide HR]
    exact ⟨unhide HB2, rfl⟩

set_option maxHeartbeats 3200000 in
theorem stepRnNil (s : ByteArray) (W : List (List UInt8)) (x1 x2 : List UInt8) (g cap : Nat) (w : World) (hs : s.size ≤ 10000) (hW : splitL 32 s.data.toList = W) (hWW : W = [[114], x1, x2]) (hz1 : x1.length ≤ 10000) (hz2 : x2.length ≤ 10000) (hn : RA w g 0 []) :
    Calls Tryz.prog 23 #[.slice (some ⟨g, 0, none⟩) 0 cap, .string s] w fun e w' => RowsR w (stepO [] (stepW W)) e w' := by
  have HC : Hid (∀ wx, Calls Tryz.prog 22 #[.string s, .int .u8 32] wx fun e w' => Below wx.heap.size wx w' ∧ ∃ g cap, e = .returned (.slice (some ⟨g, 0, none⟩) W.length cap) ∧ g < w'.heap.size ∧ w'.ownsRow wx.heap.size 9 1 (.slice (some ⟨g, 0, none⟩) W.length cap) W.length (strsV W)) := fun wx => by
    have := cut_any s 32 wx (by omega)
    rw [hW] at this
    exact this
  have HN := hide hn
  have hgl := hn.lt
  clear hn hW
  go_enter Tryz.func23, Tryz.ntmps23
  go_wp2_with fail
  refine (unhide HC _).mono ?_
  rintro e w1 ⟨hB1, gw, capw, rfl, hgw, how⟩
  have hsz1 := hB1.size
  have HB1 := hide hB1
  have HN1 := hide ((unhide HN).below hB1 hgl)
  have HCELL : Hid (∀ i x, W[i]? = some x → w1.cell? ⟨gw, i, none⟩ = some (.string (mk x))) := fun i x hx => by
    have hi : i < W.length := by
      rcases Nat.lt_or_ge i W.length with h | h
      · exact h
      · rw [List.getElem?_eq_none h] at hx; cases hx
    rw [how.cellAt i (by omega)]
    simp [strsV, hx]
  clear hB1 how HC HN
  have c0 := unhide HCELL 0 [114] (by rw [hWW]; rfl)
  have c1 := unhide HCELL 1 x1 (by rw [hWW]; rfl)
  have c2 := unhide HCELL 2 x2 (by rw [hWW]; rfl)
  have hlen : W.length = 3 := by rw [hWW]; rfl
  have HR : Hid (stepO [] (stepW W) = none) := by
    show _ = _
    rw [hWW]
    simp only [stepW, if_true, stepO]
    cases numV x1 with
    | none => cases labV x2 <;> rfl
    | some k =>
      cases labV x2 with
      | none => rfl
      | some lb => show stepR [] (.ren k lb.1 (mk lb.2)) = none; rw [stepR, if_pos (by simp; omega)]
  rw [hlen]
  clear HCELL hWW hlen
  have HCT : Hid (∀ wx, Calls Tryz.prog 43 #[.string (mk x1)] wx fun e w' => e = .returned (.int .i64 (cntR (numV x1))) ∧ w' = wx) := fun wx => refCount_any (mk x1) wx (by rw [mk_size]; omega)
  have HLB : Hid (∀ wx, Calls Tryz.prog 45 #[.string (mk x2)] wx fun e w' => e = .returned (.tuple #[.agg (rlabA (labV x2)), .bool (labV x2).isSome]) ∧ Below wx.heap.size wx w') := fun wx => labelled_any (mk x2) wx (by rw [mk_size]; omega)
  have hcb := cntR_bd x1
  have he114 : ((mk [114]).toList == [114]) = true := by rw [mk_eq]; rfl
  generalize cntR (numV x1) = c at *
  generalize labV x2 = lv at *
  generalize mk x1 = y1 at *
  generalize mk x2 = y2 at *
  generalize mk [114] = y0 at *
  go_wp2_with fail
  refine (unhide HCT _).mono ?_
  rintro e w1 ⟨rfl, hw⟩; have hw := hw.symm; subst hw
  go_wp2_with (first | (at_builtin; refine append_nil0 rfl _ _ rfl g cap rfl rfl (unhide HN1).lt ?_) | fail)
  intro w2 hg2
  have HB2 : Hid (Below w.heap.size w w2) := (unhide HB1).grown hg2 (unhide HB1).size (fun k hk => by cases hk)
  have hsz2 := hg2.size
  have HCL2 : Hid (∀ i, w2.cell? ⟨gw, i, none⟩ = w1.cell? ⟨gw, i, none⟩) := fun i => World.cell?_of_block (hg2.block gw hgw (by simp))
  clear hg2 HN1
  have d0 := (unhide HCL2 0).trans c0
  have d2 := (unhide HCL2 2).trans c2
  go_wp2_with fail
  refine (unhide HLB _).mono ?_
  rintro e w3 ⟨he, hB3⟩
  have hsz3 := hB3.size
  have HB3 : Hid (Below w.heap.size w w3) := (unhide HB2).trans (hB3.mono (by omega))
  clear hB3 HLB
  cases lv with
  | none =>
    have he' : e = .returned (.tuple #[.agg #[.int .i64 0, .bool false, .string ⟨#[]⟩], .bool false]) := he
    subst he'
    clear he
    go_wp2_with fail
    go_ret2
    rw [unhide HR]
    exact ⟨(unhide HB3).alloc (by omega) _, rfl⟩
  | some bt =>
    obtain ⟨b, tl⟩ := bt
    have he' : e = .returned (.tuple #[.agg #[.int .i64 0, .bool (!b), .string (mk tl)], .bool true]) := he
    subst he'
    clear he
    generalize mk tl = t at *
    by_cases hc1 : c - 1 < 0
    · go_wp2_with fail
      go_ret2
      rw [unhide HR]
      exact ⟨(unhide HB3).alloc (by omega) _, rfl⟩
    · have hc2 : (0 : Int) ≤ c - 1 := by omega
      go_wp2_with fail
      go_ret2
      rw [unhide HR]
      exact ⟨(unhide HB3).alloc (by omega) _, rfl⟩
set_option maxHeartbeats 4000000 in
theorem stepINil (s : ByteArray) (W : List (List UInt8)) (x1 x2 x3 x4 : List UInt8) (g cap : Nat) (w : World) (hs : s.size ≤ 10000) (hW : splitL 32 s.data.toList = W) (hWW : W = [[105], x1, x2, x3, x4]) (hz1 : x1.length ≤ 10000) (hz2 : x2.length ≤ 10000) (hz3 : x3.length ≤ 10000) (hz4 : x4.length ≤ 10000) (hn : RA w g 0 []) :
    Calls Tryz.prog 23 #[.slice (some ⟨g, 0, none⟩) 0 cap, .string s] w fun e w' => RowsR w (stepO [] (stepW W)) e w' := by
  have HC : Hid (∀ wx, Calls Tryz.prog 22 #[.string s, .int .u8 32] wx fun e w' => Below wx.heap.size wx w' ∧ ∃ g cap, e = .returned (.slice (some ⟨g, 0, none⟩) W.length cap) ∧ g < w'.heap.size ∧ w'.ownsRow wx.heap.size 9 1 (.slice (some ⟨g, 0, none⟩) W.length cap) W.length (strsV W)) := fun wx => by
    have := cut_any s 32 wx (by omega)
    rw [hW] at this
    exact this
  have HN := hide hn
  have hgl := hn.lt
  clear hn hW
  go_enter Tryz.func23, Tryz.ntmps23
  go_wp2_with fail
  refine (unhide HC _).mono ?_
  rintro e w1 ⟨hB1, gw, capw, rfl, hgw, how⟩
  have hsz1 := hB1.size
  have HB1 := hide hB1
  have HN1 := hide ((unhide HN).below hB1 hgl)
  have HCELL : Hid (∀ i x, W[i]? = some x → w1.cell? ⟨gw, i, none⟩ = some (.string (mk x))) := fun i x hx => by
    have hi : i < W.length := by
      rcases Nat.lt_or_ge i W.length with h | h
      · exact h
      · rw [List.getElem?_eq_none h] at hx; cases hx
    rw [how.cellAt i (by omega)]
    simp [strsV, hx]
  clear hB1 how HC HN
  have c0 := unhide HCELL 0 [105] (by rw [hWW]; rfl)
  have c1 := unhide HCELL 1 x1 (by rw [hWW]; rfl)
  have c2 := unhide HCELL 2 x2 (by rw [hWW]; rfl)
  have c3 := unhide HCELL 3 x3 (by rw [hWW]; rfl)
  have c4 := unhide HCELL 4 x4 (by rw [hWW]; rfl)
  have hlen : W.length = 5 := by rw [hWW]; rfl
  have HST : Hid (stepO [] (stepW W) = match numV x1, numV x2, numV x3, labV x4 with | some p, some i, some n, some lb => stepR [] (.ins p i n lb.1 (mk lb.2)) | _, _, _, _ => none) := by
    show _ = _
    rw [hWW]
    simp only [stepW, if_true, stepO]
    cases numV x1 <;> cases numV x2 <;> cases numV x3 <;> cases labV x4 <;> rfl
  rw [hlen]
  clear HCELL hWW hlen
  have HCT : Hid (∀ wx, Calls Tryz.prog 43 #[.string (mk x1)] wx fun e w' => e = .returned (.int .i64 (cntR (numV x1))) ∧ w' = wx) := fun wx => refCount_any (mk x1) wx (by rw [mk_size]; omega)
  obtain ⟨cz, hcz⟩ : ∃ cz : ByteArray → Int, ∀ y, cz y = cntR (numV y.data.toList) := ⟨_, fun _ => rfl⟩
  have HCC : Hid (∀ y wx, (y = mk x2 ∨ y = mk x3) → Calls Tryz.prog 43 #[.string y] wx fun e w' => e = .returned (.int .i64 (cz y)) ∧ w' = wx) := fun y wx hy => by
    rw [hcz y]
    refine refCount_any y wx ?_
    rcases hy with rfl | rfl <;> (rw [mk_size]; omega)
  have hz2' : cz (mk x2) = cntR (numV x2) := hcz (mk x2)
  have hz3' : cz (mk x3) = cntR (numV x3) := hcz (mk x3)
  have HLB : Hid (∀ wx, Calls Tryz.prog 45 #[.string (mk x4)] wx fun e w' => e = .returned (.tuple #[.agg (rlabA (labV x4)), .bool (labV x4).isSome]) ∧ Below wx.heap.size wx w') := fun wx => labelled_any (mk x4) wx (by rw [mk_size]; omega)
  have hcb := cntR_bd x1
  have hcb2 := cntR_bd x2
  have hcb3 := cntR_bd x3
  rw [← hz2'] at hcb2
  rw [← hz3'] at hcb3
  have he105 : ((mk [105]).toList == [105]) = true := by rw [mk_eq]; rfl
  have HNUM : Hid ((cntR (numV x1) = -1 ∧ numV x1 = none) ∨ ∃ k : Nat, numV x1 = some k ∧ cntR (numV x1) = (k : Int)) := by
    cases h : numV x1 with
    | none => exact .inl ⟨rfl, rfl⟩
    | some k => exact .inr ⟨k, rfl, rfl⟩
  have HNUM2 : Hid ((cz (mk x2) = -1 ∧ numV x2 = none) ∨ ∃ k : Nat, numV x2 = some k ∧ cz (mk x2) = (k : Int) ∧ k ≤ 999999) := by
    rw [hz2']
    cases h : numV x2 with
    | none => exact .inl ⟨rfl, rfl⟩
    | some k => exact .inr ⟨k, rfl, rfl, numV_bd h⟩
  have HNUM3 : Hid ((cz (mk x3) = -1 ∧ numV x3 = none) ∨ ∃ k : Nat, numV x3 = some k ∧ cz (mk x3) = (k : Int) ∧ k ≤ 999999) := by
    rw [hz3']
    cases h : numV x3 with
    | none => exact .inl ⟨rfl, rfl⟩
    | some k => exact .inr ⟨k, rfl, rfl, numV_bd h⟩
  generalize cntR (numV x1) = cp at *
  clear hz2' hz3' hcz
  generalize labV x4 = lv at *
  generalize mk x1 = y1 at *
  generalize mk x2 = y2 at *
  generalize mk x3 = y3 at *
  generalize mk x4 = y4 at *
  generalize mk [105] = y0 at *
  go_wp2_with fail
  refine (unhide HCT _).mono ?_
  rintro e w1 ⟨rfl, hw⟩; have hw := hw.symm; subst hw
  go_wp2_with (first | (at_builtin; refine append_nil0 rfl _ _ rfl g cap rfl rfl (unhide HN1).lt ?_) | fail)
  intro w2 hg2
  have HB2 : Hid (Below w.heap.size w w2) := (unhide HB1).grown hg2 (unhide HB1).size (fun k hk => by cases hk)
  have hsz2 := hg2.size
  have HCL2 : Hid (∀ i, w2.cell? ⟨gw, i, none⟩ = w1.cell? ⟨gw, i, none⟩) := fun i => World.cell?_of_block (hg2.block gw hgw (by simp))
  clear hg2 HN1
  have d0 := (unhide HCL2 0).trans c0
  have d1 := (unhide HCL2 1).trans c1
  have d2 := (unhide HCL2 2).trans c2
  have d3 := (unhide HCL2 3).trans c3
  have d4 := (unhide HCL2 4).trans c4
  have hgw2 : gw < w2.heap.size := by omega
  clear c0 c1 c2 c3 c4 HCL2
  go_wp2_with fail
  refine (unhide HLB _).mono ?_
  rintro e w3 ⟨he, hB3⟩
  have hsz3 := hB3.size
  have HB3 : Hid (Below w.heap.size w w3) := (unhide HB2).trans (hB3.mono (by omega))
  have hgw3 : gw < w3.heap.size := by omega
  have e3 : ∀ i, w3.cell? ⟨gw, i, none⟩ = w2.cell? ⟨gw, i, none⟩ := fun i => World.cell?_of_block (hB3.block gw hgw2)
  have f1 := (e3 1).trans d1
  have f2 := (e3 2).trans d2
  have f3 := (e3 3).trans d3
  clear hB3 HLB d0 d1 d2 d3 d4 e3
  cases lv with
  | none =>
    have he' : e = .returned (.tuple #[.agg #[.int .i64 0, .bool false, .string ⟨#[]⟩], .bool false]) := he
    subst he'
    have HR : Hid (stepO [] (stepW W) = none) := by show _ = _; rw [unhide HST]; cases numV x1 <;> cases numV x2 <;> cases numV x3 <;> rfl
    clear he HST HNUM HNUM2 HNUM3
    go_wp2_with fail
    go_ret2
    rw [unhide HR]
    exact ⟨(unhide HB3).alloc (by omega) _, rfl⟩
  | some bt =>
    obtain ⟨b, tl⟩ := bt
    have he' : e = .returned (.tuple #[.agg #[.int .i64 0, .bool (!b), .string (mk tl)], .bool true]) := he
    subst he'
    clear he
    have HSTB : Hid (stepO [] (stepW W) = match numV x1, numV x2, numV x3 with | some p, some i, some n => stepR [] (.ins p i n b (mk tl)) | _, _, _ => none) := by show _ = _; rw [unhide HST]; cases numV x1 <;> cases numV x2 <;> cases numV x3 <;> rfl
    clear HST
    generalize mk tl = t at *
    by_cases hc1 : cp < 0
    · have HR : Hid (stepO [] (stepW W) = none) := by
        show _ = _
        rw [unhide HSTB]
        rcases unhide HNUM with ⟨_, h⟩ | ⟨k, h, hk⟩
        · rw [h]
        · omega
      clear HSTB HNUM HNUM2 HNUM3
      go_wp2_with fail
      refine (unhide HCT _).mono ?_
      rintro e w1 ⟨rfl, hw⟩; have hw := hw.symm; subst hw
      go_wp2_with fail
      go_ret2
      rw [unhide HR]
      exact ⟨(unhide HB3).alloc (by omega) _, rfl⟩
    obtain ⟨p, hpn, rfl⟩ : ∃ k : Nat, numV x1 = some k ∧ cp = (k : Int) := by
      rcases unhide HNUM with ⟨h, _⟩ | ⟨k, h, hk⟩
      · omega
      · exact ⟨k, h, hk⟩
    have HST2 : Hid (stepO [] (stepW W) = match numV x2, numV x3 with | some i, some n => (if 0 < p then none else insR [] p i n b t) | _, _ => none) := by
      show _ = _
      rw [unhide HSTB, hpn]
      cases numV x2 <;> cases numV x3 <;> rfl
    clear HSTB HNUM hpn
    by_cases hpl : 0 < p
    · have HR : Hid (stepO [] (stepW W) = none) := by show _ = _; rw [unhide HST2]; cases numV x2 <;> cases numV x3 <;> simp [hpl]
      have hcd : (0 : Int) ≤ (p : Int) - 1 := by omega
      clear HST2 HNUM2 HNUM3
      go_wp2_with fail
      refine (unhide HCT _).mono ?_
      rintro e w1 ⟨rfl, hw⟩; have hw := hw.symm; subst hw
      go_wp2_with fail
      go_ret2
      rw [unhide HR]
      exact ⟨(unhide HB3).alloc (by omega) _, rfl⟩
    have hcd : ¬ (0 : Int) ≤ (p : Int) - 1 := by omega
    have hp0 : p = 0 := by omega
    subst hp0
    have HINS : Hid (∀ wx, Calls Tryz.prog 46 #[.slice none 0 0, .int .i64 (-1), .int .i64 (cz y2), .int .i64 (cz y3), .agg #[.int .i64 0, .bool (!b), .string t]] wx fun e w' => RowsR wx (stepO [] (stepW W)) e w') := fun wx => by
      rw [unhide HST2]
      rcases unhide HNUM2 with ⟨h1, h2⟩ | ⟨i, h2, h1, h3⟩
      · rw [h2]
        refine (inserted_neg _ _ (cz y2) (cz y3) (!b) t wx (.inl (by omega))).mono ?_
        rintro e w' ⟨rfl, hb⟩
        exact ⟨hb, rfl⟩
      · rcases unhide HNUM3 with ⟨h4, h5⟩ | ⟨n, h5, h4, h6⟩
        · rw [h5]
          refine (inserted_neg _ _ (cz y2) (cz y3) (!b) t wx (.inr ⟨by omega, by omega⟩)).mono ?_
          rintro e w' ⟨rfl, hb⟩
          refine ⟨hb, ?_⟩
          cases numV x2 <;> rfl
        · rw [h2, h5, h1, h4]
          simp only [Nat.lt_irrefl, if_false]
          exact inserted_nil i n b t wx (by omega) (by omega)
    have HKEY : Hid (∀ wq : World, (∀ i, i < w3.heap.size + 1 → wq.heap[i]? = (w3.alloc (.cells #[.int .i64 0, .bool (!b), .string t] 51 (0, 0))).heap[i]?) → wq.cell? ⟨gw, 2, none⟩ = some (.string y2) ∧ wq.cell? ⟨gw, 3, none⟩ = some (.string y3) ∧ wq.cell? ⟨w3.heap.size, 0, none⟩ = some (.int .i64 0) ∧ wq.cell? ⟨w3.heap.size, 1, none⟩ = some (.bool (!b)) ∧ wq.cell? ⟨w3.heap.size, 2, none⟩ = some (.string t)) := fun wq hq => by
      have hk := (hq w3.heap.size (by omega)).trans (heap_alloc_new _ _)
      obtain ⟨r0, r1, r2, _⟩ := rw_cells3 hk
      have hgq : wq.heap[gw]? = w3.heap[gw]? := (hq gw (by omega)).trans (heap_alloc_old _ _ hgw3)
      exact ⟨(World.cell?_of_block hgq).trans f2, (World.cell?_of_block hgq).trans f3, r0, r1, r2⟩
    have HS0 := hide (unhide HKEY (w3.alloc (.cells #[.int .i64 0, .bool (!b), .string t] 51 (0, 0))).drew (fun i _ => rfl))
    clear HST2 HNUM2 HNUM3
    cases ho : stepO [] (stepW W) with
    | none =>
      rw [ho] at HINS
      have HHO := hide ho
      clear ho
      go_wp2_with fail
      refine (unhide HCT _).mono ?_
      rintro e w1 ⟨rfl, hw⟩; have hw := hw.symm; subst hw
      go_wp2_with fail
      go_region_held3 (fun wq => wq.cell? ⟨gw, 2, none⟩ = some (.string y2) ∧ wq.cell? ⟨gw, 3, none⟩ = some (.string y3) ∧ wq.cell? ⟨w3.heap.size, 0, none⟩ = some (.int .i64 0) ∧ wq.cell? ⟨w3.heap.size, 1, none⟩ = some (.bool (!b)) ∧ wq.cell? ⟨w3.heap.size, 2, none⟩ = some (.string t)) (first | exact unhide HS0 | exact unhide HS5) (first | (go_at_call 43; refine (unhide HCC _ _ (by first | exact .inl rfl | exact .inr rfl)).mono ?_; rintro e w1 ⟨rfl, hw⟩; have hw := hw.symm; subst hw) | (go_at_call 46; refine (unhide HINS _).mono ?_; rintro e w5 ⟨hB5, he5⟩; have he5' : e = .returned (.tuple #[.slice none 0 0, .bool false]) := he5; subst he5'; have HB5 : Hid (Below w.heap.size w w5) := (((unhide HB3).alloc (by omega) _).drew).trans (hB5.mono (by simp; omega)); have HS5 := hide (unhide HKEY w5 (fun i hi => hB5.block i (by simp; omega))); clear he5 hB5))
      all_goals go_wp2_with fail
      all_goals go_ret2
      all_goals rw [unhide HHO]
      all_goals exact ⟨unhide HB5, rfl⟩
    | some m =>
      rw [ho] at HINS
      have HHO := hide ho
      clear ho
      go_wp2_with fail
      refine (unhide HCT _).mono ?_
      rintro e w1 ⟨rfl, hw⟩; have hw := hw.symm; subst hw
      go_wp2_with fail
      go_region_held3 (fun wq => wq.cell? ⟨gw, 2, none⟩ = some (.string y2) ∧ wq.cell? ⟨gw, 3, none⟩ = some (.string y3) ∧ wq.cell? ⟨w3.heap.size, 0, none⟩ = some (.int .i64 0) ∧ wq.cell? ⟨w3.heap.size, 1, none⟩ = some (.bool (!b)) ∧ wq.cell? ⟨w3.heap.size, 2, none⟩ = some (.string t)) (first | exact unhide HS0 | exact unhide HS5) (first | (go_at_call 43; refine (unhide HCC _ _ (by first | exact .inl rfl | exact .inr rfl)).mono ?_; rintro e w1 ⟨rfl, hw⟩; have hw := hw.symm; subst hw) | (go_at_call 46; refine (unhide HINS _).mono ?_; rintro e w5 ⟨hB5, g5, cap5, rfl, hra5, hc5, hd5⟩; have HB5 : Hid (Below w.heap.size w w5) := (((unhide HB3).alloc (by omega) _).drew).trans (hB5.mono (by simp; omega)); have HRA5 := hide hra5; have HS5 := hide (unhide HKEY w5 (fun i hi => hB5.block i (by simp; omega))); clear hB5 hra5))
      all_goals go_wp2_with fail
      all_goals go_ret2
      all_goals rw [unhide HHO]
      all_goals exact ⟨unhide HB5, g5, cap5, rfl, unhide HRA5, hc5, hd5⟩

end Go.Proofs.YtdaneedflpfeaaaGreatDoor

namespace Go.Proofs.YtdaneedflpfeaaaGreatDoor
set_option maxRecDepth 100000
open Go.RowKit

theorem stepW_none {W : List (List UInt8)} (h2 : ∀ x1, W ≠ [[100], x1]) (h3 : ∀ x1 x2, W ≠ [[114], x1, x2]) (h5 : ∀ x1 x2 x3 x4, W ≠ [[105], x1, x2, x3, x4]) : stepW W = none := by
  match W with
  | [] => rfl
  | [_] => rfl
  | [x, a] =>
    rw [stepW, if_neg (fun e => h2 a (by rw [e]))]
  | [x, a, b] =>
    rw [stepW, if_neg (fun e => h3 a b (by rw [e]))]
  | [_, _, _, _] => rfl
  | [x, a, b, c, d] =>
    rw [stepW, if_neg (fun e => h5 a b c d (by rw [e]))]
  | _ :: _ :: _ :: _ :: _ :: _ :: _ => rfl
/-- The document's Step, of every line. -/
theorem step_all (l : List Rw) (s : ByteArray) (g cap : Nat) (w : World) (hs : s.size ≤ 10000) (hl : l.length ≤ 1000000) (hd : ∀ x ∈ l, x.deep ≤ 1000000) (hn : RA w g 0 l) :
    Calls Tryz.prog 23 #[.slice (some ⟨g, 0, none⟩) l.length cap, .string s] w fun e w' => RowsR w (stepO l (stepW (splitL 32 s.data.toList))) e w' := by
  have hsz : ∀ x ∈ splitL 32 s.data.toList, x.length ≤ 10000 := fun x hx => by
    have := splitL_size 32 s.data.toList x hx
    have h2 : s.data.toList.length = s.size := rfl
    omega
  have hlen := (splitL_len 32 s.data.toList).1
  obtain ⟨W, hW⟩ : ∃ W, splitL 32 s.data.toList = W := ⟨_, rfl⟩
  rw [hW] at hsz hlen ⊢
  have hnil : l = [] ∨ 1 ≤ l.length := by cases l with | nil => exact .inl rfl | cons _ _ => exact .inr (by simp)
  by_cases c2 : ∃ x1, W = [[100], x1]
  · obtain ⟨x1, e⟩ := c2
    have z1 := hsz x1 (by rw [e]; simp)
    rcases hnil with rfl | h1
    · exact stepDNil s W x1 g cap w hs hW e z1 hn
    · exact stepD_any l s W x1 g cap w hs hW e h1 hl hd z1 hn
  by_cases c3 : ∃ x1 x2, W = [[114], x1, x2]
  · obtain ⟨x1, x2, e⟩ := c3
    have z1 := hsz x1 (by rw [e]; simp)
    have z2 := hsz x2 (by rw [e]; simp)
    rcases hnil with rfl | h1
    · exact stepRnNil s W x1 x2 g cap w hs hW e z1 z2 hn
    · exact stepRn_any l s W x1 x2 g cap w hs hW e h1 hl z1 z2 hn
  by_cases c5 : ∃ x1 x2 x3 x4, W = [[105], x1, x2, x3, x4]
  · obtain ⟨x1, x2, x3, x4, e⟩ := c5
    have z1 := hsz x1 (by rw [e]; simp)
    have z2 := hsz x2 (by rw [e]; simp)
    have z3 := hsz x3 (by rw [e]; simp)
    have z4 := hsz x4 (by rw [e]; simp)
    rcases hnil with rfl | h1
    · exact stepINil s W x1 x2 x3 x4 g cap w hs hW e z1 z2 z3 z4 hn
    · exact stepI_any l s W x1 x2 x3 x4 g cap w hs hW e h1 hl hd z1 z2 z3 z4 hn
  have hno : stepW W = none := stepW_none (fun x1 e => c2 ⟨x1, e⟩) (fun x1 x2 e => c3 ⟨x1, x2, e⟩) (fun x1 x2 x3 x4 e => c5 ⟨x1, x2, x3, x4, e⟩)
  by_cases k1 : W.length = 1
  · rcases hnil with rfl | h1
    · exact stepNo1Nil s W g cap w hs hW k1 hno hn
    · exact stepNo1 l s W g cap w hs hW k1 hno h1 hl hn
  obtain ⟨x0, hx0⟩ : ∃ x0, W[0]? = some x0 := ⟨_, List.getElem?_eq_getElem (by omega)⟩
  obtain ⟨x1, hx1⟩ : ∃ x1, W[1]? = some x1 := ⟨_, List.getElem?_eq_getElem (by omega)⟩
  have z1 := hsz x1 (List.mem_of_getElem? hx1)
  by_cases k2 : W.length = 2
  · have hne : x0 ≠ [100] := fun e => by
      obtain ⟨a, b, q⟩ := len2 k2
      rw [q] at hx0; simp at hx0
      exact c2 ⟨b, by rw [q, hx0, e]⟩
    rcases hnil with rfl | h1
    · exact stepNo2Nil s W g cap w hs hW k2 hno x0 hx0 hne x1 hx1 z1 hn
    · exact stepNo2 l s W g cap w hs hW k2 hno x0 hx0 hne x1 hx1 z1 h1 hl hn
  by_cases k3 : W.length = 3
  · have hne : x0 ≠ [114] := fun e => by
      obtain ⟨a, b, c, q⟩ := len3 k3
      rw [q] at hx0; simp at hx0
      exact c3 ⟨b, c, by rw [q, hx0, e]⟩
    rcases hnil with rfl | h1
    · exact stepNo3Nil s W g cap w hs hW k3 hno x0 hx0 hne x1 hx1 z1 hn
    · exact stepNo3 l s W g cap w hs hW k3 hno x0 hx0 hne x1 hx1 z1 h1 hl hn
  by_cases k5 : W.length = 5
  · have hne : x0 ≠ [105] := fun e => by
      obtain ⟨a, b, c, d, f, q⟩ := len5 k5
      rw [q] at hx0; simp at hx0
      exact c5 ⟨b, c, d, f, by rw [q, hx0, e]⟩
    rcases hnil with rfl | h1
    · exact stepNo5Nil s W g cap w hs hW k5 hno x0 hx0 hne x1 hx1 z1 hn
    · exact stepNo5 l s W g cap w hs hW k5 hno x0 hx0 hne x1 hx1 z1 h1 hl hn
  have n2 : ((W.length : Int) == 2) = false := by rw [beq_eq_false_iff_ne]; omega
  have n3 : ((W.length : Int) == 3) = false := by rw [beq_eq_false_iff_ne]; omega
  have n5 : ((W.length : Int) == 5) = false := by rw [beq_eq_false_iff_ne]; omega
  rcases hnil with rfl | h1
  · exact stepNoxNil s W g cap w hs hW (by omega) n2 n3 n5 hno x1 hx1 z1 hn
  · exact stepNox l s W g cap w hs hW (by omega) n2 n3 n5 hno x1 hx1 z1 h1 hl hn

end Go.Proofs.YtdaneedflpfeaaaGreatDoor
