import Derived.Test.YtdaneedflpfeaaaGreatDoorRefQ5
import Derived.Laws.IdiomCopy
import Derived.Test.YtdaneedflpfeaaaGreatDoorRead
namespace Go.Proofs.YtdaneedflpfeaaaGreatDoor
set_option maxRecDepth 100000
open Go.RowKit

theorem below_cells {B b : Nat} {a : World} (hb : B ≤ b) : ∀ (vs : List Value) (o : Nat) (w : World), Below B a w → Below B a (w.setCells b o vs)
  | [], _, _, h => h
  | v :: vs, o, _, h => below_cells hb vs (o + 1) _ (h.setCell (p := ⟨b, o, none⟩) hb v)
theorem size_cells (b : Nat) : ∀ (vs : List Value) (o : Nat) (w : World), (w.setCells b o vs).heap.size = w.heap.size
  | [], _, _ => rfl
  | v :: vs, o, w => by
    show ((w.setCell ⟨b, o, none⟩ v).setCells b (o + 1) vs).heap.size = _
    rw [size_cells b vs]; simp
theorem lifts_del (l : List Rw) (q u : Nat) (hq : q < l.length) : (lifts l q u).take q ++ (lifts l q u).drop (q + 1) = l.take q ++ ((l.drop (q + 1)).take u).map Rw.down ++ l.drop (q + 1 + u) := by
  have e : (l.take (q + 1)).length = q + 1 := by rw [List.length_take]; omega
  have e1 : (lifts l q u).take q = l.take q := by
    rw [lifts, List.append_assoc, List.take_append_of_le_length (by omega), List.take_take, Nat.min_eq_left (by omega)]
  have e2 : (lifts l q u).drop (q + 1) = ((l.drop (q + 1)).take u).map Rw.down ++ l.drop (q + 1 + u) := by
    rw [lifts, List.append_assoc, List.drop_left' e]
  rw [e1, e2, List.append_assoc]
theorem RA.moved {w : World} {base g cap n q : Nat} {L : List Rw} (h : w.ownsRow base 51 3 (.slice (some ⟨g, 0, none⟩) n cap) n (rwsCells L)) (hn : n = L.length) (hg : g < w.heap.size) (hq : q < L.length) : RA (w.setCells g (0 + q * 3) (rwsCells (L.drop (q + 1)))) g 0 (L.take q ++ L.drop (q + 1)) := by
  refine ⟨by rw [size_cells]; exact hg, fun j u hu => ?_⟩
  subst hn
  rw [Nat.zero_add, Nat.zero_add]
  have hln : (rwsCells (L.drop (q + 1))).length = (L.length - (q + 1)) * 3 := by rw [rwsCells_len, List.length_drop]
  have hlt : (rwsCells (L.take q)).length = q * 3 := by rw [rwsCells_len, List.length_take, Nat.min_eq_left (by omega)]
  rw [rwsCells_split] at hu
  rcases Nat.lt_or_ge j (q * 3) with hj | hj
  · rw [World.cell?_setCells_out g _ _ w ⟨g, j, none⟩ (fun _ _ => .inl hj), h.cellAt j (by omega)]
    rw [List.getElem?_append_left (by omega)] at hu
    have e : rwsCells L = rwsCells (L.take q) ++ rwsCells (L.drop q) := by rw [← rwsCells_split, List.take_append_drop]
    rw [e, List.getElem?_append_left (by omega)]; exact hu
  · rw [List.getElem?_append_right (by omega), hlt] at hu
    obtain ⟨hj2, hu2⟩ := List.getElem?_eq_some_iff.1 hu
    have := World.cell?_setCells_in g (rwsCells (L.drop (q + 1))) (q * 3) w (fun i hi => by rw [h.cellAt (q * 3 + i) (by omega), List.getElem?_eq_getElem (by rw [rwsCells_len]; omega)]; rfl) (j - q * 3) hj2
    rw [show q * 3 + (j - q * 3) = j by omega] at this
    rw [this, hu2]
set_option maxHeartbeats 12800000 in
theorem stepD_any (l : List Rw) (s : ByteArray) (W : List (List UInt8)) (x1 : List UInt8) (g cap : Nat) (w : World) (hs : s.size ≤ 10000) (hW : splitL 32 s.data.toList = W) (hWW : W = [[100], x1]) (hl1 : 1 ≤ l.length) (hl : l.length ≤ 1000000) (hd : ∀ x ∈ l, x.deep ≤ 1000000) (hz1 : x1.length ≤ 10000) (hn : RA w g 0 l) :
    Calls Tryz.prog 23 #[.slice (some ⟨g, 0, none⟩) l.length cap, .string s] w fun e w' => RowsR w (stepO l (stepW W)) e w' := by
  have HC : Hid (∀ wx, Calls Tryz.prog 22 #[.string s, .int .u8 32] wx fun e w' => Below wx.heap.size wx w' ∧ ∃ g cap, e = .returned (.slice (some ⟨g, 0, none⟩) W.length cap) ∧ g < w'.heap.size ∧ w'.ownsRow wx.heap.size 9 1 (.slice (some ⟨g, 0, none⟩) W.length cap) W.length (strsV W)) := fun wx => by
    have := cut_any s 32 wx (by omega)
    rw [hW] at this
    exact this
  have HN := hide hn
  have hgl := hn.lt
  clear hn hW
  go_enter Tryz.func23, Tryz.ntmps23
  go_wp2_with fail
  refine (unhide HC _).mono ?_
  rintro e w1 ⟨hB1, gw, capw, rfl, hgw, how⟩
  have hsz1 := hB1.size
  have HB1 := hide hB1
  have HN1 := hide ((unhide HN).below hB1 hgl)
  have HCELL : Hid (∀ i x, W[i]? = some x → w1.cell? ⟨gw, i, none⟩ = some (.string (mk x))) := fun i x hx => by
    have hi : i < W.length := by
      rcases Nat.lt_or_ge i W.length with h | h
      · exact h
      · rw [List.getElem?_eq_none h] at hx; cases hx
    rw [how.cellAt i (by omega)]
    simp [strsV, hx]
  clear hB1 how HC HN
  have c0 := unhide HCELL 0 [100] (by rw [hWW]; rfl)
  have c1 := unhide HCELL 1 x1 (by rw [hWW]; rfl)
  have hlen : W.length = 2 := by rw [hWW]; rfl
  have HST : Hid (stepO l (stepW W) = match numV x1 with | some k => stepR l (.del k) | none => none) := by
    show _ = _
    rw [hWW]
    simp only [stepW, if_true, stepO]
    cases numV x1 <;> rfl
  rw [hlen]
  clear HCELL hWW hlen
  have HCT : Hid (∀ wx, Calls Tryz.prog 43 #[.string (mk x1)] wx fun e w' => e = .returned (.int .i64 (cntR (numV x1))) ∧ w' = wx) := fun wx => refCount_any (mk x1) wx (by rw [mk_size]; omega)
  have hcb := cntR_bd x1
  have he100 : ((mk [100]).toList == [100]) = true := by rw [mk_eq]; rfl
  have HNUM : Hid ((cntR (numV x1) = -1 ∧ numV x1 = none) ∨ ∃ k : Nat, numV x1 = some k ∧ cntR (numV x1) = (k : Int)) := by
    cases h : numV x1 with
    | none => exact .inl ⟨rfl, rfl⟩
    | some k => exact .inr ⟨k, rfl, rfl⟩
  generalize cntR (numV x1) = c at *
  generalize mk x1 = y1 at *
  generalize mk [100] = y0 at *
  go_wp2_with fail
  refine (unhide HCT _).mono ?_
  rintro e w1 ⟨rfl, hw⟩; have hw := hw.symm; subst hw
  go_wp2_with (first | (at_builtin; refine append_rws rfl _ _ rfl w1.heap.size (.slice none 0 0) (.slice (some ⟨g, 0, none⟩) l.length cap) [] l rfl rfl (World.ownsRow_nil _ _ _ _) (.inr ⟨g, 0, cap, rfl, unhide HN1⟩) (Nat.le_refl _) (by simp; omega) ?_) | fail)
  intro F v2 w2 hF ho2 hg2
  have hF2 : l = F := by first | exact hF.symm | (rw [hF]; rfl)
  clear hF
  subst hF2
  have HB2 : Hid (Below w.heap.size w w2) := below_appR (unhide HB1) (World.ownsRow_nil _ w.heap.size _ _) (Nat.le_refl _) hg2
  have hsz2 := hg2.size
  have HCL2 : Hid (∀ i, w2.cell? ⟨gw, i, none⟩ = w1.cell? ⟨gw, i, none⟩) := fun i => World.cell?_of_block (hg2.block gw hgw (by simp [Value.ownBlock]))
  rcases row_form ho2 with ⟨_, h0⟩ | ⟨g2, cap2, rfl, hg2'⟩
  · omega
  have HO2 := hide ho2
  have hlo2 := (ho2.lt g2 rfl).1
  have HCP2 := hide (own_capR ho2)
  clear ho2 hg2 HN1
  have d0 := (unhide HCL2 0).trans c0
  have d1 := (unhide HCL2 1).trans c1
  clear c0 c1 HCL2
  by_cases hc1 : c < 1
  · have HR : Hid (stepO l (stepW W) = none) := by
      show _ = _
      rw [unhide HST]
      rcases unhide HNUM with ⟨_, h⟩ | ⟨k, h, hk⟩
      · rw [h]
      · rw [h]; show stepR l (.del k) = none; rw [stepR, if_pos (.inl (by omega))]
    have hcc : c - 1 < 0 := by omega
    clear HST HNUM
    go_wp2_with fail
    go_ret2
    rw [unhide HR]
    exact ⟨unhide HB2, rfl⟩
  obtain ⟨k, hk, rfl⟩ : ∃ k : Nat, numV x1 = some k ∧ c = (k : Int) := by
    rcases unhide HNUM with ⟨h, _⟩ | ⟨k, h, hk⟩
    · omega
    · exact ⟨k, h, hk⟩
  have HST2 : Hid (stepO l (stepW W) = stepR l (.del k)) := by show _ = _; rw [unhide HST, hk]
  clear HST HNUM hk
  by_cases hkl : l.length < k
  · have HR : Hid (stepO l (stepW W) = none) := by show _ = _; rw [unhide HST2, stepR, if_pos (.inr hkl)]
    have hcc : ¬ (k : Int) - 1 < 0 := by omega
    have hcd : (l.length : Int) ≤ (k : Int) - 1 := by omega
    clear HST2
    go_wp2_with fail
    go_ret2
    rw [unhide HR]
    exact ⟨unhide HB2, rfl⟩
  obtain ⟨q, rfl⟩ : ∃ q, k = q + 1 := ⟨k - 1, by omega⟩
  have eq1 : (((q + 1 : Nat) : Int) - 1) = (q : Int) := by omega
  have hq : q < l.length := by omega
  have HR : Hid (stepO l (stepW W) = some (l.take q ++ ((l.drop (q + 1)).take (undR l q)).map Rw.down ++ l.drop (q + 1 + undR l q))) := by
    show _ = _; rw [unhide HST2, stepR, if_neg (by omega)]; rfl
  have hu := undR_le hq
  have HU := hide (fun wx h => under_any l q g2 cap2 wx hl hq h)
  have HRA2 := hide (RA.of_own (unhide HO2) hg2' rfl)
  have HGT : Hid (∀ j x, j < undR l q → l[q + 1 + j]? = some x → 1 ≤ x.deep) := fun j x hj hx => undR_deep hq hj hx
  clear HST2
  generalize undR l q = u at *
  have hcq : (((q + 1 : Nat) : Int)) = (q : Int) + 1 := by omega
  have hw0 : IntKind.i64.wrap (((q + 1 : Nat) : Int) - 1) = (q : Int) := by rw [eq1]; exact IntWalk.i64_in _ (by omega)
  clear hcb hc1 hkl
  go_wp2_with fail
  refine (unhide HU _ (unhide HRA2)).mono ?_
  rintro e w3 ⟨rfl, hB3⟩
  have hsz3 := hB3.size
  have HB3 : Hid (Below w.heap.size w w3) := (unhide HB2).trans (hB3.mono (by omega))
  have HO3 := hide (row_keep (unhide HO2) (hB3.block g2 hg2'))
  obtain ⟨B0, hb0, hb1⟩ : ∃ B0, B0 ≤ w1.heap.size ∧ w1.heap.size ≤ B0 := ⟨_, Nat.le_refl _, Nat.le_refl _⟩
  have hBeq : Hid (w1.heap.size = B0) := Nat.le_antisymm hb1 hb0
  rw [unhide hBeq] at HO3
  obtain ⟨i0, hi0, hz0, hz1', hz2⟩ := info_parts Tryz.infoRow
  have hcp := unhide HCP2
  have hcm2 : (cap2 : Int) ≤ 9223372036854775807 := by have := hcp.2; unfold maxLen at this; omega
  have hcp1 := hcp.1
  clear hB3 HU HRA2 HO2 d0 d1 hcp
  go_wp2_with fail
  go_loopw [9] (fun i wr => ∃ j : Nat, j ≤ u ∧ i = .int .i64 ((j : Int) + 1) ∧ wr.ownsRow B0 51 3 (.slice (some ⟨g2, 0, none⟩) l.length cap2) l.length (rwsCells (lifts l q j)) ∧ Below w.heap.size w wr ∧ g2 < wr.heap.size) (fun i _ => u + 1 - (intOf i).toNat)
  case atStart => exact ⟨0, Nat.zero_le _, rfl, by rw [lifts_zero]; exact unhide HO3, unhide HB3, by omega⟩
  case round =>
    obtain ⟨j, hj, rfl, ho4, hB4, hg4⟩ := hrel
    have HO4 := hide ho4
    have HB4 := hide hB4
    by_cases hju : j < u
    · obtain ⟨x, hx⟩ : ∃ x, l[q + 1 + j]? = some x := ⟨_, List.getElem?_eq_getElem (by omega)⟩
      have hra := RA.of_own (l := lifts l q j) (by rw [lifts_len]; exact ho4) hg4 (lifts_len l q j).symm
      obtain ⟨x0, x1, x2⟩ := hra.cell0 ((lifts_get (by omega)).trans hx)
      have hfz := RA.to_own ho4
      have hx1 := unhide HGT j x hju hx
      have hxd := hd x (List.mem_of_getElem? hx)
      have hix : ((q : Int) + ((j : Int) + 1)).toNat = q + 1 + j := by omega
      have hdn : ((x.deep : Int) - 1) = ((x.deep - 1 : Nat) : Int) := by omega
      have HDN := hide hdn
      have HO5 : Hid ((wr.setCell ⟨g2, (q + 1 + j) * 3, none⟩ (.int .i64 ((x.deep - 1 : Nat) : Int))).ownsRow B0 51 3 (.slice (some ⟨g2, 0, none⟩) l.length cap2) l.length (rwsCells (lifts l q (j + 1)))) := by
        show World.ownsRow _ _ _ _ _ _ _
        rw [← lifts_set hx]
        have e := rws_deep (lifts l q j) (q + 1 + j) x (x.deep - 1) ((lifts_get (by omega)).trans hx)
        rw [show x.down = ⟨x.deep - 1, x.inner, x.text⟩ from rfl, e]
        exact ((unhide HO4).stored ((q + 1 + j) * 3) (.int .i64 ((x.deep - 1 : Nat) : Int))).1
      have hlo4 := (ho4.lt g2 rfl).1
      clear ho4 hB4 hra hx hdn
      go_wp2_with fail
      go_roundw
      case rel => exact ⟨j + 1, by omega, by go_num, by rw [unhide HDN]; exact unhide HO5, (unhide HB4).setCell (p := ⟨g2, (q + 1 + j) * 3, none⟩) (by show w.heap.size ≤ g2; omega) _, by simp; omega⟩
      case measure => simp [intOf]; omega
    · have hje : j = u := by omega
      have hLl := lifts_len l q j
      have HDEL := hide (lifts_del l q u hq)
      have hlo4 := (ho4.lt g2 rfl).1
      have hfz := RA.to_own ho4
      have hcl4 := fun i (h : i < l.length * 3) => ho4.cellAt i h
      subst hje
      generalize lifts l q j = L at *
      obtain ⟨AD, hAD, hnews⟩ : ∃ AD : Addr, (if cap2 = q + 1 then some (⟨g2, 0, none⟩ : Addr) else some ⟨g2, (q + 1) * 3, none⟩) = some AD ∧ Hid (∀ i v, (rwsCells (L.drop (q + 1)))[i]? = some v → wr.drew.cell? (AD.add i) = some v) := by
        by_cases h : cap2 = q + 1
        · refine ⟨⟨g2, 0, none⟩, by simp [h], fun i v hv => ?_⟩
          rw [List.drop_of_length_le (by omega)] at hv
          simp [rwsCells] at hv
        · refine ⟨⟨g2, (q + 1) * 3, none⟩, by simp [h], fun i v hv => ?_⟩
          have hra := (RA.of_own (l := L) (by rw [hLl]; exact ho4) hg4 hLl.symm).drop (q + 1) (by omega)
          rw [radd_off]
          have := hra.at_ i v hv
          rw [Nat.zero_add] at this
          exact this
      have s1 : Hid ((rwsCells (L.drop (q + 1))).length = (l.length - (q + 1)) * 3) := by show _ = _; rw [rwsCells_len, List.length_drop, hLl]
      have s2 : Hid (∀ v ∈ rwsCells (L.drop (q + 1)), v.oneCell' = true) := rwsCells_cell _
      have s3 : Hid (∀ i, i < (rwsCells (L.drop (q + 1))).length → (wr.drew.cell? ⟨g2, 0 + q * 3 + i, none⟩).isSome = true ∧ wr.drew.frozen? ⟨g2, 0 + q * 3 + i, none⟩ = false) := by
        intro i hi
        rw [unhide s1] at hi
        refine ⟨?_, hfz _⟩
        show (wr.cell? _).isSome = true
        rw [Nat.zero_add, hcl4 (q * 3 + i) (by omega), List.getElem?_eq_getElem (by rw [rwsCells_len]; omega)]
        rfl
      have HFIN : Hid (RowsR w (stepO l (stepW W)) (.returned (.tuple #[.slice (some ⟨g2, 0, none⟩) (q + (l.length - (q + 1))) cap2, .bool true])) (wr.drew.setCells g2 (0 + q * 3) (rwsCells (L.drop (q + 1))))) := by
        show RowsR _ _ _ _
        rw [unhide HR, ← unhide HDEL]
        refine ⟨below_cells (by omega) _ _ _ (unhide HB4).drew, g2, cap2, ?_, ?_, ?_, (unhide HCP2).2⟩
        · rw [List.length_append, List.length_take, List.length_drop, hLl, Nat.min_eq_left (by omega)]
        · exact RA.moved (w := wr.drew) (unhide HO4).drew hLl.symm hg4 (by omega)
        · rw [List.length_append, List.length_take, List.length_drop, hLl]; omega
      have hqc : q ≤ cap2 := by omega
      have hwr : IntKind.i64.wrap ((q : Int) + 1) = (q : Int) + 1 := IntWalk.i64_in _ (by omega)
      have hp0 : (0 : Int) ≤ (q : Int) + 1 := by omega
      have hp1 : (q : Int) + 1 ≤ (l.length : Int) := by omega
      have hp2 : ((q : Int) + 1).toNat = q + 1 := by omega
      clear ho4 hB4 hfz hcl4 HDEL HR hLl
      generalize rwsCells (L.drop (q + 1)) = news at *
      go_wp2_with fail
      go_region_law (refine step_append_room rfl (.tmp 64) (.tmp 68) 25 rfl 51 i0 3 Tryz.underlying25 hi0 hz1' g2 0 q cap2 (by simp [Act.eval, Act.put]) AD (l.length - (q + 1)) (cap2 - (q + 1)) news (by simp [Act.eval, Act.put]) s1.out hnews.out s2.out (by omega) s3.out ?_)
      go_wp2_with fail
      go_ret2
      have hfin := unhide HFIN
      rw [Nat.zero_add (q * 3)] at hfin
      exact hfin

end Go.Proofs.YtdaneedflpfeaaaGreatDoor
