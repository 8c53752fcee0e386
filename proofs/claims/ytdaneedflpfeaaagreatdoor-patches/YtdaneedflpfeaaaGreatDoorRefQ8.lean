import Derived.Test.YtdaneedflpfeaaaGreatDoorRefQ7
namespace Go.Proofs.YtdaneedflpfeaaaGreatDoor
set_option maxRecDepth 100000
open Go.RowKit

theorem rw_set3 {w : World} {base g cap n : Nat} {l : List Rw} (h : w.ownsRow base 51 3 (.slice (some ⟨g, 0, none⟩) n cap) n (rwsCells l)) (i : Nat) (x : Rw) (hi : i < l.length) :
    (((w.setCell ⟨g, i * 3, none⟩ (.int .i64 (x.deep : Int))).setCell ⟨g, i * 3 + 1, none⟩ (.bool (!x.inner))).setCell ⟨g, i * 3 + 2, none⟩ (.string x.text)).ownsRow base 51 3 (.slice (some ⟨g, 0, none⟩) n cap) n (rwsCells (l.set i x)) := by
  have h1 := (h.stored (i * 3) (.int .i64 (x.deep : Int))).1
  have h2 := (h1.stored (i * 3 + 1) (.bool (!x.inner))).1
  have h3 := (h2.stored (i * 3 + 2) (.string x.text)).1
  rw [rws_set _ _ _ hi]
  exact h3
theorem RowsR.own {w0 w : World} {base g cap n : Nat} {l : List Rw} (h : w.ownsRow base 51 3 (.slice (some ⟨g, 0, none⟩) n cap) n (rwsCells l)) (hn : n = l.length) (hg : g < w.heap.size) (hb : Below w0.heap.size w0 w) : RowsR w0 (some l) (.returned (.tuple #[.slice (some ⟨g, 0, none⟩) n cap, .bool true])) w := by
  subst hn
  exact ⟨hb, g, cap, rfl, RA.of_own h hg rfl, (own_capR h).1, (own_capR h).2⟩
theorem below3 {w0 w : World} {g i : Nat} (hb : Below w0.heap.size w0 w) (hg : w0.heap.size ≤ g) (a b c : Value) : Below w0.heap.size w0 (((w.setCell ⟨g, i, none⟩ a).setCell ⟨g, i + 1, none⟩ b).setCell ⟨g, i + 2, none⟩ c) :=
  ((hb.setCell (p := ⟨g, i, none⟩) hg a).setCell (p := ⟨g, i + 1, none⟩) hg b).setCell (p := ⟨g, i + 2, none⟩) hg c

set_option maxHeartbeats 12800000 in
theorem stepRn_any (l : List Rw) (s : ByteArray) (W : List (List UInt8)) (x1 x2 : List UInt8) (g cap : Nat) (w : World) (hs : s.size ≤ 10000) (hW : splitL 32 s.data.toList = W) (hWW : W = [[114], x1, x2]) (hl1 : 1 ≤ l.length) (hl : l.length ≤ 1000000) (hz1 : x1.length ≤ 10000) (hz2 : x2.length ≤ 10000) (hn : RA w g 0 l) :
    Calls Tryz.prog 23 #[.slice (some ⟨g, 0, none⟩) l.length cap, .string s] w fun e w' => RowsR w (stepO l (stepW W)) e w' := by
  have HC : Hid (∀ wx, Calls Tryz.prog 22 #[.string s, .int .u8 32] wx fun e w' => Below wx.heap.size wx w' ∧ ∃ g cap, e = .returned (.slice (some ⟨g, 0, none⟩) W.length cap) ∧ g < w'.heap.size ∧ w'.ownsRow wx.heap.size 9 1 (.slice (some ⟨g, 0, none⟩) W.length cap) W.length (strsV W)) := fun wx => by
    have := cut_any s 32 wx (by omega)
    rw [hW] at this
    exact this
  have HN := hide hn
  have hgl := hn.lt
  clear hn hW
  go_enter Tryz.func23, Tryz.ntmps23
  go_wp2_with fail
  refine (unhide HC _).mono ?_
  rintro e w1 ⟨hB1, gw, capw, rfl, hgw, how⟩
  have hsz1 := hB1.size
  have HB1 := hide hB1
  have HN1 := hide ((unhide HN).below hB1 hgl)
  have HCELL : Hid (∀ i x, W[i]? = some x → w1.cell? ⟨gw, i, none⟩ = some (.string (mk x))) := fun i x hx => by
    have hi : i < W.length := by
      rcases Nat.lt_or_ge i W.length with h | h
      · exact h
      · rw [List.getElem?_eq_none h] at hx; cases hx
    rw [how.cellAt i (by omega)]
    simp [strsV, hx]
  clear hB1 how HC HN
  have c0 := unhide HCELL 0 [114] (by rw [hWW]; rfl)
  have c1 := unhide HCELL 1 x1 (by rw [hWW]; rfl)
  have c2 := unhide HCELL 2 x2 (by rw [hWW]; rfl)
  have hlen : W.length = 3 := by rw [hWW]; rfl
  have HST : Hid (stepO l (stepW W) = match numV x1, labV x2 with | some k, some lb => stepR l (.ren k lb.1 (mk lb.2)) | _, _ => none) := by
    show _ = _
    rw [hWW]
    simp only [stepW, if_true, stepO]
    cases numV x1 <;> cases labV x2 <;> rfl
  rw [hlen]
  clear HCELL hWW hlen
  have HCT : Hid (∀ wx, Calls Tryz.prog 43 #[.string (mk x1)] wx fun e w' => e = .returned (.int .i64 (cntR (numV x1))) ∧ w' = wx) := fun wx => refCount_any (mk x1) wx (by rw [mk_size]; omega)
  have HLB : Hid (∀ wx, Calls Tryz.prog 45 #[.string (mk x2)] wx fun e w' => e = .returned (.tuple #[.agg (rlabA (labV x2)), .bool (labV x2).isSome]) ∧ Below wx.heap.size wx w') := fun wx => labelled_any (mk x2) wx (by rw [mk_size]; omega)
  have hcb := cntR_bd x1
  have he114 : ((mk [114]).toList == [114]) = true := by rw [mk_eq]; rfl
  have HNUM : Hid ((cntR (numV x1) = -1 ∧ numV x1 = none) ∨ ∃ k : Nat, numV x1 = some k ∧ cntR (numV x1) = (k : Int)) := by
    cases h : numV x1 with
    | none => exact .inl ⟨rfl, rfl⟩
    | some k => exact .inr ⟨k, rfl, rfl⟩
  generalize cntR (numV x1) = c at *
  generalize labV x2 = lv at *
  generalize mk x1 = y1 at *
  generalize mk x2 = y2 at *
  generalize mk [114] = y0 at *
  go_wp2_with fail
  refine (unhide HCT _).mono ?_
  rintro e w1 ⟨rfl, hw⟩; have hw := hw.symm; subst hw
  go_wp2_with (first | (at_builtin; refine append_rws rfl _ _ rfl w1.heap.size (.slice none 0 0) (.slice (some ⟨g, 0, none⟩) l.length cap) [] l rfl rfl (World.ownsRow_nil _ _ _ _) (.inr ⟨g, 0, cap, rfl, unhide HN1⟩) (Nat.le_refl _) (by simp; omega) ?_) | fail)
  intro F v2 w2 hF ho2 hg2
  have hF2 : l = F := by first | exact hF.symm | (rw [hF]; rfl)
  clear hF
  subst hF2
  have HB2 : Hid (Below w.heap.size w w2) := below_appR (unhide HB1) (World.ownsRow_nil _ w.heap.size _ _) (Nat.le_refl _) hg2
  have hsz2 := hg2.size
  have HCL2 : Hid (∀ i, w2.cell? ⟨gw, i, none⟩ = w1.cell? ⟨gw, i, none⟩) := fun i => World.cell?_of_block (hg2.block gw hgw (by simp [Value.ownBlock]))
  rcases row_form ho2 with ⟨_, h0⟩ | ⟨g2, cap2, rfl, hg2'⟩
  · omega
  have HO2 := hide ho2
  have hlo2 := (ho2.lt g2 rfl).1
  have HCP2 := hide (own_capR ho2)
  clear ho2 hg2 HN1
  have d0 := (unhide HCL2 0).trans c0
  have d1 := (unhide HCL2 1).trans c1
  have d2 := (unhide HCL2 2).trans c2
  clear c0 c1 c2 HCL2
  go_wp2_with fail
  refine (unhide HLB _).mono ?_
  rintro e w3 ⟨he, hB3⟩
  have hsz3 := hB3.size
  have HB3 : Hid (Below w.heap.size w w3) := (unhide HB2).trans (hB3.mono (by omega))
  have ho3 := row_keep (unhide HO2) (hB3.block g2 hg2')
  have HO3 := hide ho3
  have hg3 : g2 < w3.heap.size := by omega
  clear hB3 HLB HO2
  cases lv with
  | none =>
    have he' : e = .returned (.tuple #[.agg #[.int .i64 0, .bool false, .string ⟨#[]⟩], .bool false]) := he
    subst he'
    have HR : Hid (stepO l (stepW W) = none) := by show _ = _; rw [unhide HST]; cases numV x1 <;> rfl
    clear he HST HNUM ho3
    go_wp2_with fail
    go_ret2
    rw [unhide HR]
    exact ⟨(unhide HB3).alloc (by omega) _, rfl⟩
  | some bt =>
    obtain ⟨b, tl⟩ := bt
    have he' : e = .returned (.tuple #[.agg #[.int .i64 0, .bool (!b), .string (mk tl)], .bool true]) := he
    subst he'
    clear he
    have HSTB : Hid (stepO l (stepW W) = match numV x1 with | some k => stepR l (.ren k b (mk tl)) | none => none) := by show _ = _; rw [unhide HST]; cases numV x1 <;> rfl
    clear HST
    generalize mk tl = t at *
    by_cases hc1 : c < 1
    · have HR : Hid (stepO l (stepW W) = none) := by
        show _ = _
        rw [unhide HSTB]
        rcases unhide HNUM with ⟨_, h⟩ | ⟨k, h, hk⟩
        · rw [h]
        · rw [h]; show stepR l (.ren k b t) = none; rw [stepR, if_pos (.inl (by omega))]
      have hcc : c - 1 < 0 := by omega
      clear HSTB HNUM ho3
      go_wp2_with fail
      go_ret2
      rw [unhide HR]
      exact ⟨(unhide HB3).alloc (by omega) _, rfl⟩
    obtain ⟨k, hk, rfl⟩ : ∃ k : Nat, numV x1 = some k ∧ c = (k : Int) := by
      rcases unhide HNUM with ⟨h, _⟩ | ⟨k, h, hk⟩
      · omega
      · exact ⟨k, h, hk⟩
    have HST2 : Hid (stepO l (stepW W) = stepR l (.ren k b t)) := by show _ = _; rw [unhide HSTB, hk]
    clear HSTB HNUM hk
    by_cases hkl : l.length < k
    · have HR : Hid (stepO l (stepW W) = none) := by show _ = _; rw [unhide HST2, stepR, if_pos (.inr hkl)]
      have hcc : ¬ (k : Int) - 1 < 0 := by omega
      have hcd : (l.length : Int) ≤ (k : Int) - 1 := by omega
      clear HST2 ho3
      go_wp2_with fail
      go_ret2
      rw [unhide HR]
      exact ⟨(unhide HB3).alloc (by omega) _, rfl⟩
    obtain ⟨q, rfl⟩ : ∃ q, k = q + 1 := ⟨k - 1, by omega⟩
    have eq1 : (((q + 1 : Nat) : Int) - 1) = (q : Int) := by omega
    have hq : q < l.length := by omega
    have hxq : l[q]? = some l[q] := List.getElem?_eq_getElem hq
    have HST3 : Hid (stepO l (stepW W) = if b = false ∧ 0 < undR l q then none else some (l.set q ⟨(l[q]).deep, b, t⟩)) := by
      show _ = _
      rw [unhide HST2]
      show stepR l (.ren (q + 1) b t) = _
      rw [stepR, if_neg (by omega)]
      simp only [Nat.add_sub_cancel, hxq]
    clear HST2 hc1 hkl
    obtain ⟨z0, z1, z2⟩ := (RA.of_own ho3 hg3 rfl).cell0 hxq
    have hfz := RA.to_own ho3
    clear hxq ho3
    generalize (l[q]'hq) = x at *
    cases b with
    | true =>
      have HR := hide ((unhide HST3).trans (if_neg (by simp)))
      clear HST3
      go_wp2_with fail
      go_ret2
      rw [unhide HR]
      first
        | exact RowsR.own (by exact rw_set3 ((unhide HO3).alloc _) q ⟨x.deep, true, t⟩ hq) (by rw [List.length_set]) (by simp; omega) (below3 ((unhide HB3).alloc (by omega) _) (by omega) _ _ _)
        | exact RowsR.own (by exact (rw_set3 (unhide HO3) q ⟨x.deep, true, t⟩ hq).alloc _) (by rw [List.length_set]) (by simp; omega) ((below3 (unhide HB3) (by omega) _ _ _).alloc (by simp; omega) _)
    | false =>
      have HNA : Hid (∀ o, RA (w3.alloc o) g2 0 l) := fun o => (RA.of_own (unhide HO3) hg3 rfl).heap (heap_alloc_old _ _ hg3)
      have HU := hide (fun wx h => under_any l q g2 cap2 wx hl hq h)
      go_wp2_with fail
      refine (unhide HU _ (unhide HNA _)).mono ?_
      rintro e w4 ⟨rfl, hB4⟩
      have hkb : w4.heap[w3.heap.size]? = some (.cells #[.int .i64 0, .bool true, .string t] 51 (0, 0)) := (hB4.block _ (by simp)).trans (heap_alloc_new _ _)
      have hsz4 : w3.heap.size < w4.heap.size := by have := hB4.size; simp at this; omega
      have HB4 : Hid (Below w.heap.size w w4) := ((unhide HB3).alloc (by omega) _).trans (hB4.mono (by simp; omega))
      have ho4 := row_keep (unhide HO3) ((hB4.block g2 (by simp; omega)).trans (heap_alloc_old _ _ hg3))
      have hcell4 := (RA.of_own ho4 (by omega) rfl)
      have e0 : ∀ i, w4.cell? ⟨g2, i, none⟩ = w3.cell? ⟨g2, i, none⟩ := fun i => World.cell?_of_block ((hB4.block g2 (by simp; omega)).trans (heap_alloc_old _ _ hg3))
      have t0 := (e0 (q * 3)).trans z0
      have t1 := (e0 (q * 3 + 1)).trans z1
      have t2 := (e0 (q * 3 + 2)).trans z2
      have hfz4 := RA.to_own ho4
      obtain ⟨p0, p1, p2, p3⟩ := rw_cells3 hkb
      have HO4 := hide ho4
      have HKB := hide hkb
      have hg4 : g2 < w4.heap.size := by omega
      clear hB4 hkb ho4 hcell4 e0 z0 z1 z2 hfz
      by_cases hz : 0 < undR l q
      · have HR := hide ((unhide HST3).trans (if_pos (by simp; omega)))
        clear HST3
        generalize undR l q = u at *
        go_wp2_with fail
        go_ret2
        rw [unhide HR]
        exact ⟨unhide HB4, rfl⟩
      · have HR := hide ((unhide HST3).trans (if_neg (by simp; omega)))
        have HO5 : Hid ((w4.setCell ⟨w3.heap.size, 0, none⟩ (.int .i64 (x.deep : Int))).ownsRow w1.heap.size 51 3 (.slice (some ⟨g2, 0, none⟩) l.length cap2) l.length (rwsCells l)) := row_keep (unhide HO4) (heap_setCell_other _ ⟨w3.heap.size, 0, none⟩ _ _ (by show g2 ≠ w3.heap.size; omega))
        have HB5 : Hid (Below w.heap.size w (w4.setCell ⟨w3.heap.size, 0, none⟩ (.int .i64 (x.deep : Int)))) := (unhide HB4).setCell (p := ⟨w3.heap.size, 0, none⟩) (by show w.heap.size ≤ w3.heap.size; omega) _
        clear HST3
        generalize undR l q = u at *
        go_wp2_with fail
        go_ret2
        rw [unhide HR]
        exact RowsR.own (by exact rw_set3 (unhide HO5) q ⟨x.deep, false, t⟩ hq) (by rw [List.length_set]) (by simp; omega) (below3 (unhide HB5) (by omega) _ _ _)

end Go.Proofs.YtdaneedflpfeaaaGreatDoor
