import Derived.Test.YtdaneedflpfeaaaGreatDoorRefQ8
namespace Go.Proofs.YtdaneedflpfeaaaGreatDoor
set_option maxRecDepth 100000
open Go.RowKit

theorem RowsR.up {w w1 w' : World} {o : Option (List Rw)} {e : Ending} (h : RowsR w1 o e w') (hb : Below w.heap.size w w1) : RowsR w o e w' :=
  ⟨hb.trans (h.1.mono hb.size), h.2⟩

set_option maxHeartbeats 4000000 in
theorem stepI_any (l : List Rw) (s : ByteArray) (W : List (List UInt8)) (x1 x2 x3 x4 : List UInt8) (g cap : Nat) (w : World) (hs : s.size ≤ 10000) (hW : splitL 32 s.data.toList = W) (hWW : W = [[105], x1, x2, x3, x4]) (hl1 : 1 ≤ l.length) (hl : l.length ≤ 1000000) (hd : ∀ x ∈ l, x.deep ≤ 1000000) (hz1 : x1.length ≤ 10000) (hz2 : x2.length ≤ 10000) (hz3 : x3.length ≤ 10000) (hz4 : x4.length ≤ 10000) (hn : RA w g 0 l) :
    Calls Tryz.prog 23 #[.slice (some ⟨g, 0, none⟩) l.length cap, .string s] w fun e w' => RowsR w (stepO l (stepW W)) e w' := by
  have HC : Hid (∀ wx, Calls Tryz.prog 22 #[.string s, .int .u8 32] wx fun e w' => Below wx.heap.size wx w' ∧ ∃ g cap, e = .returned (.slice (some ⟨g, 0, none⟩) W.length cap) ∧ g < w'.heap.size ∧ w'.ownsRow wx.heap.size 9 1 (.slice (some ⟨g, 0, none⟩) W.length cap) W.length (strsV W)) := fun wx => by
    have := cut_any s 32 wx (by omega)
    rw [hW] at this
    exact this
  have HN := hide hn
  have hgl := hn.lt
  clear hn hW
  go_enter Tryz.func23, Tryz.ntmps23
  go_wp2_with fail
  refine (unhide HC _).mono ?_
  rintro e w1 ⟨hB1, gw, capw, rfl, hgw, how⟩
  have hsz1 := hB1.size
  have HB1 := hide hB1
  have HN1 := hide ((unhide HN).below hB1 hgl)
  have HCELL : Hid (∀ i x, W[i]? = some x → w1.cell? ⟨gw, i, none⟩ = some (.string (mk x))) := fun i x hx => by
    have hi : i < W.length := by
      rcases Nat.lt_or_ge i W.length with h | h
      · exact h
      · rw [List.getElem?_eq_none h] at hx; cases hx
    rw [how.cellAt i (by omega)]
    simp [strsV, hx]
  clear hB1 how HC HN
  have c0 := unhide HCELL 0 [105] (by rw [hWW]; rfl)
  have c1 := unhide HCELL 1 x1 (by rw [hWW]; rfl)
  have c2 := unhide HCELL 2 x2 (by rw [hWW]; rfl)
  have c3 := unhide HCELL 3 x3 (by rw [hWW]; rfl)
  have c4 := unhide HCELL 4 x4 (by rw [hWW]; rfl)
  have hlen : W.length = 5 := by rw [hWW]; rfl
  have HST : Hid (stepO l (stepW W) = match numV x1, numV x2, numV x3, labV x4 with | some p, some i, some n, some lb => stepR l (.ins p i n lb.1 (mk lb.2)) | _, _, _, _ => none) := by
    show _ = _
    rw [hWW]
    simp only [stepW, if_true, stepO]
    cases numV x1 <;> cases numV x2 <;> cases numV x3 <;> cases labV x4 <;> rfl
  rw [hlen]
  clear HCELL hWW hlen
  have HCT : Hid (∀ wx, Calls Tryz.prog 43 #[.string (mk x1)] wx fun e w' => e = .returned (.int .i64 (cntR (numV x1))) ∧ w' = wx) := fun wx => refCount_any (mk x1) wx (by rw [mk_size]; omega)
  obtain ⟨cz, hcz⟩ : ∃ cz : ByteArray → Int, ∀ y, cz y = cntR (numV y.data.toList) := ⟨_, fun _ => rfl⟩
  have HCC : Hid (∀ y wx, (y = mk x2 ∨ y = mk x3) → Calls Tryz.prog 43 #[.string y] wx fun e w' => e = .returned (.int .i64 (cz y)) ∧ w' = wx) := fun y wx hy => by
    rw [hcz y]
    refine refCount_any y wx ?_
    rcases hy with rfl | rfl <;> (rw [mk_size]; omega)
  have hz2' : cz (mk x2) = cntR (numV x2) := hcz (mk x2)
  have hz3' : cz (mk x3) = cntR (numV x3) := hcz (mk x3)
  have HLB : Hid (∀ wx, Calls Tryz.prog 45 #[.string (mk x4)] wx fun e w' => e = .returned (.tuple #[.agg (rlabA (labV x4)), .bool (labV x4).isSome]) ∧ Below wx.heap.size wx w') := fun wx => labelled_any (mk x4) wx (by rw [mk_size]; omega)
  have hcb := cntR_bd x1
  have hcb2 := cntR_bd x2
  have hcb3 := cntR_bd x3
  rw [← hz2'] at hcb2
  rw [← hz3'] at hcb3
  have he105 : ((mk [105]).toList == [105]) = true := by rw [mk_eq]; rfl
  have HNUM : Hid ((cntR (numV x1) = -1 ∧ numV x1 = none) ∨ ∃ k : Nat, numV x1 = some k ∧ cntR (numV x1) = (k : Int)) := by
    cases h : numV x1 with
    | none => exact .inl ⟨rfl, rfl⟩
    | some k => exact .inr ⟨k, rfl, rfl⟩
  have HNUM2 : Hid ((cz (mk x2) = -1 ∧ numV x2 = none) ∨ ∃ k : Nat, numV x2 = some k ∧ cz (mk x2) = (k : Int) ∧ k ≤ 999999) := by
    rw [hz2']
    cases h : numV x2 with
    | none => exact .inl ⟨rfl, rfl⟩
    | some k => exact .inr ⟨k, rfl, rfl, numV_bd h⟩
  have HNUM3 : Hid ((cz (mk x3) = -1 ∧ numV x3 = none) ∨ ∃ k : Nat, numV x3 = some k ∧ cz (mk x3) = (k : Int) ∧ k ≤ 999999) := by
    rw [hz3']
    cases h : numV x3 with
    | none => exact .inl ⟨rfl, rfl⟩
    | some k => exact .inr ⟨k, rfl, rfl, numV_bd h⟩
  generalize cntR (numV x1) = cp at *
  clear hz2' hz3' hcz
  generalize labV x4 = lv at *
  generalize mk x1 = y1 at *
  generalize mk x2 = y2 at *
  generalize mk x3 = y3 at *
  generalize mk x4 = y4 at *
  generalize mk [105] = y0 at *
  go_wp2_with fail
  refine (unhide HCT _).mono ?_
  rintro e w1 ⟨rfl, hw⟩; have hw := hw.symm; subst hw
  go_wp2_with (first | (at_builtin; refine append_rws rfl _ _ rfl w1.heap.size (.slice none 0 0) (.slice (some ⟨g, 0, none⟩) l.length cap) [] l rfl rfl (World.ownsRow_nil _ _ _ _) (.inr ⟨g, 0, cap, rfl, unhide HN1⟩) (Nat.le_refl _) (by simp; omega) ?_) | fail)
  intro F v2 w2 hF ho2 hg2
  have hF2 : l = F := by first | exact hF.symm | (rw [hF]; rfl)
  clear hF
  subst hF2
  have HB2 : Hid (Below w.heap.size w w2) := below_appR (unhide HB1) (World.ownsRow_nil _ w.heap.size _ _) (Nat.le_refl _) hg2
  have hsz2 := hg2.size
  have HCL2 : Hid (∀ i, w2.cell? ⟨gw, i, none⟩ = w1.cell? ⟨gw, i, none⟩) := fun i => World.cell?_of_block (hg2.block gw hgw (by simp [Value.ownBlock]))
  rcases row_form ho2 with ⟨_, h0⟩ | ⟨g2, cap2, rfl, hg2'⟩
  · omega
  have HO2 := hide ho2
  have hlo2 := (ho2.lt g2 rfl).1
  have HCP2 := hide (own_capR ho2)
  clear ho2 hg2 HN1
  have d0 := (unhide HCL2 0).trans c0
  have d1 := (unhide HCL2 1).trans c1
  have d2 := (unhide HCL2 2).trans c2
  have d3 := (unhide HCL2 3).trans c3
  have d4 := (unhide HCL2 4).trans c4
  have hgw2 : gw < w2.heap.size := by omega
  clear c0 c1 c2 c3 c4 HCL2
  go_wp2_with fail
  refine (unhide HLB _).mono ?_
  rintro e w3 ⟨he, hB3⟩
  have hsz3 := hB3.size
  have HB3 : Hid (Below w.heap.size w w3) := (unhide HB2).trans (hB3.mono (by omega))
  have ho3 := row_keep (unhide HO2) (hB3.block g2 hg2')
  have HO3 := hide ho3
  have hg3 : g2 < w3.heap.size := by omega
  have hgw3 : gw < w3.heap.size := by omega
  have e3 : ∀ i, w3.cell? ⟨gw, i, none⟩ = w2.cell? ⟨gw, i, none⟩ := fun i => World.cell?_of_block (hB3.block gw hgw2)
  have f1 := (e3 1).trans d1
  have f2 := (e3 2).trans d2
  have f3 := (e3 3).trans d3
  clear hB3 HLB HO2 d0 d1 d2 d3 d4 e3 ho3
  cases lv with
  | none =>
    have he' : e = .returned (.tuple #[.agg #[.int .i64 0, .bool false, .string ⟨#[]⟩], .bool false]) := he
    subst he'
    have HR : Hid (stepO l (stepW W) = none) := by show _ = _; rw [unhide HST]; cases numV x1 <;> cases numV x2 <;> cases numV x3 <;> rfl
    clear he HST HNUM HNUM2 HNUM3
    go_wp2_with fail
    go_ret2
    rw [unhide HR]
    exact ⟨(unhide HB3).alloc (by omega) _, rfl⟩
  | some bt =>
    obtain ⟨b, tl⟩ := bt
    have he' : e = .returned (.tuple #[.agg #[.int .i64 0, .bool (!b), .string (mk tl)], .bool true]) := he
    subst he'
    clear he
    have HSTB : Hid (stepO l (stepW W) = match numV x1, numV x2, numV x3 with | some p, some i, some n => stepR l (.ins p i n b (mk tl)) | _, _, _ => none) := by show _ = _; rw [unhide HST]; cases numV x1 <;> cases numV x2 <;> cases numV x3 <;> rfl
    clear HST
    generalize mk tl = t at *
    by_cases hc1 : cp < 0
    · have HR : Hid (stepO l (stepW W) = none) := by
        show _ = _
        rw [unhide HSTB]
        rcases unhide HNUM with ⟨_, h⟩ | ⟨k, h, hk⟩
        · rw [h]
        · omega
      clear HSTB HNUM HNUM2 HNUM3
      go_wp2_with fail
      refine (unhide HCT _).mono ?_
      rintro e w1 ⟨rfl, hw⟩; have hw := hw.symm; subst hw
      go_wp2_with fail
      go_ret2
      rw [unhide HR]
      exact ⟨(unhide HB3).alloc (by omega) _, rfl⟩
    obtain ⟨p, hpn, rfl⟩ : ∃ k : Nat, numV x1 = some k ∧ cp = (k : Int) := by
      rcases unhide HNUM with ⟨h, _⟩ | ⟨k, h, hk⟩
      · omega
      · exact ⟨k, h, hk⟩
    have HST2 : Hid (stepO l (stepW W) = match numV x2, numV x3 with | some i, some n => (if l.length < p then none else insR l p i n b t) | _, _ => none) := by
      show _ = _
      rw [unhide HSTB, hpn]
      cases numV x2 <;> cases numV x3 <;> rfl
    clear HSTB HNUM hpn
    by_cases hpl : l.length < p
    · have HR : Hid (stepO l (stepW W) = none) := by show _ = _; rw [unhide HST2]; cases numV x2 <;> cases numV x3 <;> simp [hpl]
      have hcd : (l.length : Int) ≤ (p : Int) - 1 := by omega
      clear HST2 HNUM2 HNUM3
      go_wp2_with fail
      refine (unhide HCT _).mono ?_
      rintro e w1 ⟨rfl, hw⟩; have hw := hw.symm; subst hw
      go_wp2_with fail
      go_ret2
      rw [unhide HR]
      exact ⟨(unhide HB3).alloc (by omega) _, rfl⟩
    have hcd : ¬ (l.length : Int) ≤ (p : Int) - 1 := by omega
    have hcp2 := unhide HCP2
    have HINS : Hid (∀ wx, RA wx g2 0 l → Calls Tryz.prog 46 #[.slice (some ⟨g2, 0, none⟩) l.length cap2, .int .i64 ((p : Int) - 1), .int .i64 (cz y2), .int .i64 (cz y3), .agg #[.int .i64 0, .bool (!b), .string t]] wx fun e w' => RowsR wx (stepO l (stepW W)) e w') := fun wx hx => by
      rw [unhide HST2]
      rcases unhide HNUM2 with ⟨h1, h2⟩ | ⟨i, h2, h1, h3⟩
      · rw [h2]
        refine (inserted_neg _ _ (cz y2) (cz y3) (!b) t wx (.inl (by omega))).mono ?_
        rintro e w' ⟨rfl, hb⟩
        exact ⟨hb, rfl⟩
      · rcases unhide HNUM3 with ⟨h4, h5⟩ | ⟨n, h5, h4, h6⟩
        · rw [h5]
          refine (inserted_neg _ _ (cz y2) (cz y3) (!b) t wx (.inr ⟨by omega, by omega⟩)).mono ?_
          rintro e w' ⟨rfl, hb⟩
          refine ⟨hb, ?_⟩
          cases numV x2 <;> rfl
        · rw [h2, h5, h1, h4]
          simp only [if_neg hpl]
          exact inserted_any l p i n g2 cap2 b t wx hl hcp2.1 hcp2.2 (by omega) (by omega) (by omega) hd hx
    have HNA : Hid (∀ o, RA (w3.alloc o).drew g2 0 l) := fun o => (RA.of_own (unhide HO3) hg3 rfl).heap (heap_alloc_old _ _ hg3)
    have hw0 : IntKind.i64.wrap ((p : Int) - 1) = (p : Int) - 1 := IntWalk.i64_in _ (by omega)
    have HKEY : Hid (∀ wq : World, (∀ i, i < w3.heap.size + 1 → wq.heap[i]? = (w3.alloc (.cells #[.int .i64 0, .bool (!b), .string t] 51 (0, 0))).heap[i]?) → wq.cell? ⟨gw, 2, none⟩ = some (.string y2) ∧ wq.cell? ⟨gw, 3, none⟩ = some (.string y3) ∧ wq.cell? ⟨w3.heap.size, 0, none⟩ = some (.int .i64 0) ∧ wq.cell? ⟨w3.heap.size, 1, none⟩ = some (.bool (!b)) ∧ wq.cell? ⟨w3.heap.size, 2, none⟩ = some (.string t)) := fun wq hq => by
      have hk := (hq w3.heap.size (by omega)).trans (heap_alloc_new _ _)
      obtain ⟨r0, r1, r2, _⟩ := rw_cells3 hk
      have hgq : wq.heap[gw]? = w3.heap[gw]? := (hq gw (by omega)).trans (heap_alloc_old _ _ hgw3)
      exact ⟨(World.cell?_of_block hgq).trans f2, (World.cell?_of_block hgq).trans f3, r0, r1, r2⟩
    have HS0 := hide (unhide HKEY (w3.alloc (.cells #[.int .i64 0, .bool (!b), .string t] 51 (0, 0))).drew (fun i _ => rfl))
    clear HST2 HNUM2 HNUM3 hcp2
    cases ho : stepO l (stepW W) with
    | none =>
      rw [ho] at HINS
      have HHO := hide ho
      clear ho
      go_wp2_with fail
      refine (unhide HCT _).mono ?_
      rintro e w1 ⟨rfl, hw⟩; have hw := hw.symm; subst hw
      go_wp2_with fail
      go_region_held3 (fun wq => wq.cell? ⟨gw, 2, none⟩ = some (.string y2) ∧ wq.cell? ⟨gw, 3, none⟩ = some (.string y3) ∧ wq.cell? ⟨w3.heap.size, 0, none⟩ = some (.int .i64 0) ∧ wq.cell? ⟨w3.heap.size, 1, none⟩ = some (.bool (!b)) ∧ wq.cell? ⟨w3.heap.size, 2, none⟩ = some (.string t)) (first | exact unhide HS0 | exact unhide HS5) (first | (go_at_call 43; refine (unhide HCC _ _ (by first | exact .inl rfl | exact .inr rfl)).mono ?_; rintro e w1 ⟨rfl, hw⟩; have hw := hw.symm; subst hw) | (go_at_call 46; refine (unhide HINS _ (unhide HNA _)).mono ?_; rintro e w5 ⟨hB5, he5⟩; have he5' : e = .returned (.tuple #[.slice none 0 0, .bool false]) := he5; subst he5'; have HB5 : Hid (Below w.heap.size w w5) := (((unhide HB3).alloc (by omega) _).drew).trans (hB5.mono (by simp; omega)); have HS5 := hide (unhide HKEY w5 (fun i hi => hB5.block i (by simp; omega))); clear he5 hB5))
      all_goals go_wp2_with fail
      all_goals go_ret2
      all_goals rw [unhide HHO]
      all_goals exact ⟨unhide HB5, rfl⟩
    | some m =>
      rw [ho] at HINS
      have HHO := hide ho
      clear ho
      go_wp2_with fail
      refine (unhide HCT _).mono ?_
      rintro e w1 ⟨rfl, hw⟩; have hw := hw.symm; subst hw
      go_wp2_with fail
      go_region_held3 (fun wq => wq.cell? ⟨gw, 2, none⟩ = some (.string y2) ∧ wq.cell? ⟨gw, 3, none⟩ = some (.string y3) ∧ wq.cell? ⟨w3.heap.size, 0, none⟩ = some (.int .i64 0) ∧ wq.cell? ⟨w3.heap.size, 1, none⟩ = some (.bool (!b)) ∧ wq.cell? ⟨w3.heap.size, 2, none⟩ = some (.string t)) (first | exact unhide HS0 | exact unhide HS5) (first | (go_at_call 43; refine (unhide HCC _ _ (by first | exact .inl rfl | exact .inr rfl)).mono ?_; rintro e w1 ⟨rfl, hw⟩; have hw := hw.symm; subst hw) | (go_at_call 46; refine (unhide HINS _ (unhide HNA _)).mono ?_; rintro e w5 ⟨hB5, g5, cap5, rfl, hra5, hc5, hd5⟩; have HB5 : Hid (Below w.heap.size w w5) := (((unhide HB3).alloc (by omega) _).drew).trans (hB5.mono (by simp; omega)); have HRA5 := hide hra5; have HS5 := hide (unhide HKEY w5 (fun i hi => hB5.block i (by simp; omega))); clear hB5 hra5))
      all_goals go_wp2_with fail
      all_goals go_ret2
      all_goals rw [unhide HHO]
      all_goals exact ⟨unhide HB5, g5, cap5, rfl, unhide HRA5, hc5, hd5⟩

end Go.Proofs.YtdaneedflpfeaaaGreatDoor
