import Derived.Test.YtdaneedflpfeaaaGreatDoorRefQ10
namespace Go.Proofs.YtdaneedflpfeaaaGreatDoor
set_option maxRecDepth 100000
open Go.RowKit

set_option maxHeartbeats 3200000 in
theorem stepDNil (s : ByteArray) (W : List (List UInt8)) (x1 : List UInt8) (g cap : Nat) (w : World) (hs : s.size ≤ 10000) (hW : splitL 32 s.data.toList = W) (hWW : W = [[100], x1]) (hz1 : x1.length ≤ 10000) (hn : RA w g 0 []) :
    Calls Tryz.prog 23 #[.slice (some ⟨g, 0, none⟩) 0 cap, .string s] w fun e w' => RowsR w (stepO [] (stepW W)) e w' := by
  have HC : Hid (∀ wx, Calls Tryz.prog 22 #[.string s, .int .u8 32] wx fun e w' => Below wx.heap.size wx w' ∧ ∃ g cap, e = .returned (.slice (some ⟨g, 0, none⟩) W.length cap) ∧ g < w'.heap.size ∧ w'.ownsRow wx.heap.size 9 1 (.slice (some ⟨g, 0, none⟩) W.length cap) W.length (strsV W)) := fun wx => by
    have := cut_any s 32 wx (by omega)
    rw [hW] at this
    exact this
  have HN := hide hn
  have hgl := hn.lt
  clear hn hW
  go_enter Tryz.func23, Tryz.ntmps23
  go_wp2_with fail
  refine (unhide HC _).mono ?_
  rintro e w1 ⟨hB1, gw, capw, rfl, hgw, how⟩
  have hsz1 := hB1.size
  have HB1 := hide hB1
  have HN1 := hide ((unhide HN).below hB1 hgl)
  have HCELL : Hid (∀ i x, W[i]? = some x → w1.cell? ⟨gw, i, none⟩ = some (.string (mk x))) := fun i x hx => by
    have hi : i < W.length := by
      rcases Nat.lt_or_ge i W.length with h | h
      · exact h
      · rw [List.getElem?_eq_none h] at hx; cases hx
    rw [how.cellAt i (by omega)]
    simp [strsV, hx]
  clear hB1 how HC HN
  have c0 := unhide HCELL 0 [100] (by rw [hWW]; rfl)
  have c1 := unhide HCELL 1 x1 (by rw [hWW]; rfl)
  have hlen : W.length = 2 := by rw [hWW]; rfl
  have HR : Hid (stepO [] (stepW W) = none) := by
    show _ = _
    rw [hWW]
    simp only [stepW, if_true, stepO]
    cases numV x1 with
    | none => rfl
    | some k => show stepR [] (.del k) = none; rw [stepR, if_pos (by simp; omega)]
  rw [hlen]
  clear HCELL hWW hlen
  have HCT : Hid (∀ wx, Calls Tryz.prog 43 #[.string (mk x1)] wx fun e w' => e = .returned (.int .i64 (cntR (numV x1))) ∧ w' = wx) := fun wx => refCount_any (mk x1) wx (by rw [mk_size]; omega)
  have hcb := cntR_bd x1
  have he100 : ((mk [100]).toList == [100]) = true := by rw [mk_eq]; rfl
  generalize cntR (numV x1) = c at *
  generalize mk x1 = y1 at *
  generalize mk [100] = y0 at *
  go_wp2_with fail
  refine (unhide HCT _).mono ?_
  rintro e w1 ⟨rfl, hw⟩; have hw := hw.symm; subst hw
  go_wp2_with (first | (at_builtin; refine append_nil0 rfl _ _ rfl g cap rfl rfl (unhide HN1).lt ?_) | fail)
  intro w2 hg2
  have HB2 : Hid (Below w.heap.size w w2) := (unhide HB1).grown hg2 (unhide HB1).size (fun k hk => by cases hk)
  have hsz2 := hg2.size
  have HCL2 : Hid (∀ i, w2.cell? ⟨gw, i, none⟩ = w1.cell? ⟨gw, i, none⟩) := fun i => World.cell?_of_block (hg2.block gw hgw (by simp))
  clear hg2 HN1
  have d0 := (unhide HCL2 0).trans c0
  by_cases hc1 : c - 1 < 0
  · go_wp2_with fail
    go_ret2
    rw [unhide HR]
    exact ⟨unhide HB2, rfl⟩
  · have hc2 : (0 : Int) ≤ c - 1 := by omega
    go_wp2_with fail
    go_ret2
    rw [unhide HR]
    exact ⟨unhide HB2, rfl⟩

set_option maxHeartbeats 3200000 in
theorem stepRnNil (s : ByteArray) (W : List (List UInt8)) (x1 x2 : List UInt8) (g cap : Nat) (w : World) (hs : s.size ≤ 10000) (hW : splitL 32 s.data.toList = W) (hWW : W = [[114], x1, x2]) (hz1 : x1.length ≤ 10000) (hz2 : x2.length ≤ 10000) (hn : RA w g 0 []) :
    Calls Tryz.prog 23 #[.slice (some ⟨g, 0, none⟩) 0 cap, .string s] w fun e w' => RowsR w (stepO [] (stepW W)) e w' := by
  have HC : Hid (∀ wx, Calls Tryz.prog 22 #[.string s, .int .u8 32] wx fun e w' => Below wx.heap.size wx w' ∧ ∃ g cap, e = .returned (.slice (some ⟨g, 0, none⟩) W.length cap) ∧ g < w'.heap.size ∧ w'.ownsRow wx.heap.size 9 1 (.slice (some ⟨g, 0, none⟩) W.length cap) W.length (strsV W)) := fun wx => by
    have := cut_any s 32 wx (by omega)
    rw [hW] at this
    exact this
  have HN := hide hn
  have hgl := hn.lt
  clear hn hW
  go_enter Tryz.func23, Tryz.ntmps23
  go_wp2_with fail
  refine (unhide HC _).mono ?_
  rintro e w1 ⟨hB1, gw, capw, rfl, hgw, how⟩
  have hsz1 := hB1.size
  have HB1 := hide hB1
  have HN1 := hide ((unhide HN).below hB1 hgl)
  have HCELL : Hid (∀ i x, W[i]? = some x → w1.cell? ⟨gw, i, none⟩ = some (.string (mk x))) := fun i x hx => by
    have hi : i < W.length := by
      rcases Nat.lt_or_ge i W.length with h | h
      · exact h
      · rw [List.getElem?_eq_none h] at hx; cases hx
    rw [how.cellAt i (by omega)]
    simp [strsV, hx]
  clear hB1 how HC HN
  have c0 := unhide HCELL 0 [114] (by rw [hWW]; rfl)
  have c1 := unhide HCELL 1 x1 (by rw [hWW]; rfl)
  have c2 := unhide HCELL 2 x2 (by rw [hWW]; rfl)
  have hlen : W.length = 3 := by rw [hWW]; rfl
  have HR : Hid (stepO [] (stepW W) = none) := by
    show _ = _
    rw [hWW]
    simp only [stepW, if_true, stepO]
    cases numV x1 with
    | none => cases labV x2 <;> rfl
    | some k =>
      cases labV x2 with
      | none => rfl
      | some lb => show stepR [] (.ren k lb.1 (mk lb.2)) = none; rw [stepR, if_pos (by simp; omega)]
  rw [hlen]
  clear HCELL hWW hlen
  have HCT : Hid (∀ wx, Calls Tryz.prog 43 #[.string (mk x1)] wx fun e w' => e = .returned (.int .i64 (cntR (numV x1))) ∧ w' = wx) := fun wx => refCount_any (mk x1) wx (by rw [mk_size]; omega)
  have HLB : Hid (∀ wx, Calls Tryz.prog 45 #[.string (mk x2)] wx fun e w' => e = .returned (.tuple #[.agg (rlabA (labV x2)), .bool (labV x2).isSome]) ∧ Below wx.heap.size wx w') := fun wx => labelled_any (mk x2) wx (by rw [mk_size]; omega)
  have hcb := cntR_bd x1
  have he114 : ((mk [114]).toList == [114]) = true := by rw [mk_eq]; rfl
  generalize cntR (numV x1) = c at *
  generalize labV x2 = lv at *
  generalize mk x1 = y1 at *
  generalize mk x2 = y2 at *
  generalize mk [114] = y0 at *
  go_wp2_with fail
  refine (unhide HCT _).mono ?_
  rintro e w1 ⟨rfl, hw⟩; have hw := hw.symm; subst hw
  go_wp2_with (first | (at_builtin; refine append_nil0 rfl _ _ rfl g cap rfl rfl (unhide HN1).lt ?_) | fail)
  intro w2 hg2
  have HB2 : Hid (Below w.heap.size w w2) := (unhide HB1).grown hg2 (unhide HB1).size (fun k hk => by cases hk)
  have hsz2 := hg2.size
  have HCL2 : Hid (∀ i, w2.cell? ⟨gw, i, none⟩ = w1.cell? ⟨gw, i, none⟩) := fun i => World.cell?_of_block (hg2.block gw hgw (by simp))
  clear hg2 HN1
  have d0 := (unhide HCL2 0).trans c0
  have d2 := (unhide HCL2 2).trans c2
  go_wp2_with fail
  refine (unhide HLB _).mono ?_
  rintro e w3 ⟨he, hB3⟩
  have hsz3 := hB3.size
  have HB3 : Hid (Below w.heap.size w w3) := (unhide HB2).trans (hB3.mono (by omega))
  clear hB3 HLB
  cases lv with
  | none =>
    have he' : e = .returned (.tuple #[.agg #[.int .i64 0, .bool false, .string ⟨#[]⟩], .bool false]) := he
    subst he'
    clear he
    go_wp2_with fail
    go_ret2
    rw [unhide HR]
    exact ⟨(unhide HB3).alloc (by omega) _, rfl⟩
  | some bt =>
    obtain ⟨b, tl⟩ := bt
    have he' : e = .returned (.tuple #[.agg #[.int .i64 0, .bool (!b), .string (mk tl)], .bool true]) := he
    subst he'
    clear he
    generalize mk tl = t at *
    by_cases hc1 : c - 1 < 0
    · go_wp2_with fail
      go_ret2
      rw [unhide HR]
      exact ⟨(unhide HB3).alloc (by omega) _, rfl⟩
    · have hc2 : (0 : Int) ≤ c - 1 := by omega
      go_wp2_with fail
      go_ret2
      rw [unhide HR]
      exact ⟨(unhide HB3).alloc (by omega) _, rfl⟩
set_option maxHeartbeats 4000000 in
theorem stepINil (s : ByteArray) (W : List (List UInt8)) (x1 x2 x3 x4 : List UInt8) (g cap : Nat) (w : World) (hs : s.size ≤ 10000) (hW : splitL 32 s.data.toList = W) (hWW : W = [[105], x1, x2, x3, x4]) (hz1 : x1.length ≤ 10000) (hz2 : x2.length ≤ 10000) (hz3 : x3.length ≤ 10000) (hz4 : x4.length ≤ 10000) (hn : RA w g 0 []) :
    Calls Tryz.prog 23 #[.slice (some ⟨g, 0, none⟩) 0 cap, .string s] w fun e w' => RowsR w (stepO [] (stepW W)) e w' := by
  have HC : Hid (∀ wx, Calls Tryz.prog 22 #[.string s, .int .u8 32] wx fun e w' => Below wx.heap.size wx w' ∧ ∃ g cap, e = .returned (.slice (some ⟨g, 0, none⟩) W.length cap) ∧ g < w'.heap.size ∧ w'.ownsRow wx.heap.size 9 1 (.slice (some ⟨g, 0, none⟩) W.length cap) W.length (strsV W)) := fun wx => by
    have := cut_any s 32 wx (by omega)
    rw [hW] at this
    exact this
  have HN := hide hn
  have hgl := hn.lt
  clear hn hW
  go_enter Tryz.func23, Tryz.ntmps23
  go_wp2_with fail
  refine (unhide HC _).mono ?_
  rintro e w1 ⟨hB1, gw, capw, rfl, hgw, how⟩
  have hsz1 := hB1.size
  have HB1 := hide hB1
  have HN1 := hide ((unhide HN).below hB1 hgl)
  have HCELL : Hid (∀ i x, W[i]? = some x → w1.cell? ⟨gw, i, none⟩ = some (.string (mk x))) := fun i x hx => by
    have hi : i < W.length := by
      rcases Nat.lt_or_ge i W.length with h | h
      · exact h
      · rw [List.getElem?_eq_none h] at hx; cases hx
    rw [how.cellAt i (by omega)]
    simp [strsV, hx]
  clear hB1 how HC HN
  have c0 := unhide HCELL 0 [105] (by rw [hWW]; rfl)
  have c1 := unhide HCELL 1 x1 (by rw [hWW]; rfl)
  have c2 := unhide HCELL 2 x2 (by rw [hWW]; rfl)
  have c3 := unhide HCELL 3 x3 (by rw [hWW]; rfl)
  have c4 := unhide HCELL 4 x4 (by rw [hWW]; rfl)
  have hlen : W.length = 5 := by rw [hWW]; rfl
  have HST : Hid (stepO [] (stepW W) = match numV x1, numV x2, numV x3, labV x4 with | some p, some i, some n, some lb => stepR [] (.ins p i n lb.1 (mk lb.2)) | _, _, _, _ => none) := by
    show _ = _
    rw [hWW]
    simp only [stepW, if_true, stepO]
    cases numV x1 <;> cases numV x2 <;> cases numV x3 <;> cases labV x4 <;> rfl
  rw [hlen]
  clear HCELL hWW hlen
  have HCT : Hid (∀ wx, Calls Tryz.prog 43 #[.string (mk x1)] wx fun e w' => e = .returned (.int .i64 (cntR (numV x1))) ∧ w' = wx) := fun wx => refCount_any (mk x1) wx (by rw [mk_size]; omega)
  obtain ⟨cz, hcz⟩ : ∃ cz : ByteArray → Int, ∀ y, cz y = cntR (numV y.data.toList) := ⟨_, fun _ => rfl⟩
  have HCC : Hid (∀ y wx, (y = mk x2 ∨ y = mk x3) → Calls Tryz.prog 43 #[.string y] wx fun e w' => e = .returned (.int .i64 (cz y)) ∧ w' = wx) := fun y wx hy => by
    rw [hcz y]
    refine refCount_any y wx ?_
    rcases hy with rfl | rfl <;> (rw [mk_size]; omega)
  have hz2' : cz (mk x2) = cntR (numV x2) := hcz (mk x2)
  have hz3' : cz (mk x3) = cntR (numV x3) := hcz (mk x3)
  have HLB : Hid (∀ wx, Calls Tryz.prog 45 #[.string (mk x4)] wx fun e w' => e = .returned (.tuple #[.agg (rlabA (labV x4)), .bool (labV x4).isSome]) ∧ Below wx.heap.size wx w') := fun wx => labelled_any (mk x4) wx (by rw [mk_size]; omega)
  have hcb := cntR_bd x1
  have hcb2 := cntR_bd x2
  have hcb3 := cntR_bd x3
  rw [← hz2'] at hcb2
  rw [← hz3'] at hcb3
  have he105 : ((mk [105]).toList == [105]) = true := by rw [mk_eq]; rfl
  have HNUM : Hid ((cntR (numV x1) = -1 ∧ numV x1 = none) ∨ ∃ k : Nat, numV x1 = some k ∧ cntR (numV x1) = (k : Int)) := by
    cases h : numV x1 with
    | none => exact .inl ⟨rfl, rfl⟩
    | some k => exact .inr ⟨k, rfl, rfl⟩
  have HNUM2 : Hid ((cz (mk x2) = -1 ∧ numV x2 = none) ∨ ∃ k : Nat, numV x2 = some k ∧ cz (mk x2) = (k : Int) ∧ k ≤ 999999) := by
    rw [hz2']
    cases h : numV x2 with
    | none => exact .inl ⟨rfl, rfl⟩
    | some k => exact .inr ⟨k, rfl, rfl, numV_bd h⟩
  have HNUM3 : Hid ((cz (mk x3) = -1 ∧ numV x3 = none) ∨ ∃ k : Nat, numV x3 = some k ∧ cz (mk x3) = (k : Int) ∧ k ≤ 999999) := by
    rw [hz3']
    cases h : numV x3 with
    | none => exact .inl ⟨rfl, rfl⟩
    | some k => exact .inr ⟨k, rfl, rfl, numV_bd h⟩
  generalize cntR (numV x1) = cp at *
  clear hz2' hz3' hcz
  generalize labV x4 = lv at *
  generalize mk x1 = y1 at *
  generalize mk x2 = y2 at *
  generalize mk x3 = y3 at *
  generalize mk x4 = y4 at *
  generalize mk [105] = y0 at *
  go_wp2_with fail
  refine (unhide HCT _).mono ?_
  rintro e w1 ⟨rfl, hw⟩; have hw := hw.symm; subst hw
  go_wp2_with (first | (at_builtin; refine append_nil0 rfl _ _ rfl g cap rfl rfl (unhide HN1).lt ?_) | fail)
  intro w2 hg2
  have HB2 : Hid (Below w.heap.size w w2) := (unhide HB1).grown hg2 (unhide HB1).size (fun k hk => by cases hk)
  have hsz2 := hg2.size
  have HCL2 : Hid (∀ i, w2.cell? ⟨gw, i, none⟩ = w1.cell? ⟨gw, i, none⟩) := fun i => World.cell?_of_block (hg2.block gw hgw (by simp))
  clear hg2 HN1
  have d0 := (unhide HCL2 0).trans c0
  have d1 := (unhide HCL2 1).trans c1
  have d2 := (unhide HCL2 2).trans c2
  have d3 := (unhide HCL2 3).trans c3
  have d4 := (unhide HCL2 4).trans c4
  have hgw2 : gw < w2.heap.size := by omega
  clear c0 c1 c2 c3 c4 HCL2
  go_wp2_with fail
  refine (unhide HLB _).mono ?_
  rintro e w3 ⟨he, hB3⟩
  have hsz3 := hB3.size
  have HB3 : Hid (Below w.heap.size w w3) := (unhide HB2).trans (hB3.mono (by omega))
  have hgw3 : gw < w3.heap.size := by omega
  have e3 : ∀ i, w3.cell? ⟨gw, i, none⟩ = w2.cell? ⟨gw, i, none⟩ := fun i => World.cell?_of_block (hB3.block gw hgw2)
  have f1 := (e3 1).trans d1
  have f2 := (e3 2).trans d2
  have f3 := (e3 3).trans d3
  clear hB3 HLB d0 d1 d2 d3 d4 e3
  cases lv with
  | none =>
    have he' : e = .returned (.tuple #[.agg #[.int .i64 0, .bool false, .string ⟨#[]⟩], .bool false]) := he
    subst he'
    have HR : Hid (stepO [] (stepW W) = none) := by show _ = _; rw [unhide HST]; cases numV x1 <;> cases numV x2 <;> cases numV x3 <;> rfl
    clear he HST HNUM HNUM2 HNUM3
    go_wp2_with fail
    go_ret2
    rw [unhide HR]
    exact ⟨(unhide HB3).alloc (by omega) _, rfl⟩
  | some bt =>
    obtain ⟨b, tl⟩ := bt
    have he' : e = .returned (.tuple #[.agg #[.int .i64 0, .bool (!b), .string (mk tl)], .bool true]) := he
    subst he'
    clear he
    have HSTB : Hid (stepO [] (stepW W) = match numV x1, numV x2, numV x3 with | some p, some i, some n => stepR [] (.ins p i n b (mk tl)) | _, _, _ => none) := by show _ = _; rw [unhide HST]; cases numV x1 <;> cases numV x2 <;> cases numV x3 <;> rfl
    clear HST
    generalize mk tl = t at *
    by_cases hc1 : cp < 0
    · have HR : Hid (stepO [] (stepW W) = none) := by
        show _ = _
        rw [unhide HSTB]
        rcases unhide HNUM with ⟨_, h⟩ | ⟨k, h, hk⟩
        · rw [h]
        · omega
      clear HSTB HNUM HNUM2 HNUM3
      go_wp2_with fail
      refine (unhide HCT _).mono ?_
      rintro e w1 ⟨rfl, hw⟩; have hw := hw.symm; subst hw
      go_wp2_with fail
      go_ret2
      rw [unhide HR]
      exact ⟨(unhide HB3).alloc (by omega) _, rfl⟩
    obtain ⟨p, hpn, rfl⟩ : ∃ k : Nat, numV x1 = some k ∧ cp = (k : Int) := by
      rcases unhide HNUM with ⟨h, _⟩ | ⟨k, h, hk⟩
      · omega
      · exact ⟨k, h, hk⟩
    have HST2 : Hid (stepO [] (stepW W) = match numV x2, numV x3 with | some i, some n => (if 0 < p then none else insR [] p i n b t) | _, _ => none) := by
      show _ = _
      rw [unhide HSTB, hpn]
      cases numV x2 <;> cases numV x3 <;> rfl
    clear HSTB HNUM hpn
    by_cases hpl : 0 < p
    · have HR : Hid (stepO [] (stepW W) = none) := by show _ = _; rw [unhide HST2]; cases numV x2 <;> cases numV x3 <;> simp [hpl]
      have hcd : (0 : Int) ≤ (p : Int) - 1 := by omega
      clear HST2 HNUM2 HNUM3
      go_wp2_with fail
      refine (unhide HCT _).mono ?_
      rintro e w1 ⟨rfl, hw⟩; have hw := hw.symm; subst hw
      go_wp2_with fail
      go_ret2
      rw [unhide HR]
      exact ⟨(unhide HB3).alloc (by omega) _, rfl⟩
    have hcd : ¬ (0 : Int) ≤ (p : Int) - 1 := by omega
    have hp0 : p = 0 := by omega
    subst hp0
    have HINS : Hid (∀ wx, Calls Tryz.prog 46 #[.slice none 0 0, .int .i64 (-1), .int .i64 (cz y2), .int .i64 (cz y3), .agg #[.int .i64 0, .bool (!b), .string t]] wx fun e w' => RowsR wx (stepO [] (stepW W)) e w') := fun wx => by
      rw [unhide HST2]
      rcases unhide HNUM2 with ⟨h1, h2⟩ | ⟨i, h2, h1, h3⟩
      · rw [h2]
        refine (inserted_neg _ _ (cz y2) (cz y3) (!b) t wx (.inl (by omega))).mono ?_
        rintro e w' ⟨rfl, hb⟩
        exact ⟨hb, rfl⟩
      · rcases unhide HNUM3 with ⟨h4, h5⟩ | ⟨n, h5, h4, h6⟩
        · rw [h5]
          refine (inserted_neg _ _ (cz y2) (cz y3) (!b) t wx (.inr ⟨by omega, by omega⟩)).mono ?_
          rintro e w' ⟨rfl, hb⟩
          refine ⟨hb, ?_⟩
          cases numV x2 <;> rfl
        · rw [h2, h5, h1, h4]
          simp only [Nat.lt_irrefl, if_false]
          exact inserted_nil i n b t wx (by omega) (by omega)
    have HKEY : Hid (∀ wq : World, (∀ i, i < w3.heap.size + 1 → wq.heap[i]? = (w3.alloc (.cells #[.int .i64 0, .bool (!b), .string t] 51 (0, 0))).heap[i]?) → wq.cell? ⟨gw, 2, none⟩ = some (.string y2) ∧ wq.cell? ⟨gw, 3, none⟩ = some (.string y3) ∧ wq.cell? ⟨w3.heap.size, 0, none⟩ = some (.int .i64 0) ∧ wq.cell? ⟨w3.heap.size, 1, none⟩ = some (.bool (!b)) ∧ wq.cell? ⟨w3.heap.size, 2, none⟩ = some (.string t)) := fun wq hq => by
      have hk := (hq w3.heap.size (by omega)).trans (heap_alloc_new _ _)
      obtain ⟨r0, r1, r2, _⟩ := rw_cells3 hk
      have hgq : wq.heap[gw]? = w3.heap[gw]? := (hq gw (by omega)).trans (heap_alloc_old _ _ hgw3)
      exact ⟨(World.cell?_of_block hgq).trans f2, (World.cell?_of_block hgq).trans f3, r0, r1, r2⟩
    have HS0 := hide (unhide HKEY (w3.alloc (.cells #[.int .i64 0, .bool (!b), .string t] 51 (0, 0))).drew (fun i _ => rfl))
    clear HST2 HNUM2 HNUM3
    cases ho : stepO [] (stepW W) with
    | none =>
      rw [ho] at HINS
      have HHO := hide ho
      clear ho
      go_wp2_with fail
      refine (unhide HCT _).mono ?_
      rintro e w1 ⟨rfl, hw⟩; have hw := hw.symm; subst hw
      go_wp2_with fail
      go_region_held3 (fun wq => wq.cell? ⟨gw, 2, none⟩ = some (.string y2) ∧ wq.cell? ⟨gw, 3, none⟩ = some (.string y3) ∧ wq.cell? ⟨w3.heap.size, 0, none⟩ = some (.int .i64 0) ∧ wq.cell? ⟨w3.heap.size, 1, none⟩ = some (.bool (!b)) ∧ wq.cell? ⟨w3.heap.size, 2, none⟩ = some (.string t)) (first | exact unhide HS0 | exact unhide HS5) (first | (go_at_call 43; refine (unhide HCC _ _ (by first | exact .inl rfl | exact .inr rfl)).mono ?_; rintro e w1 ⟨rfl, hw⟩; have hw := hw.symm; subst hw) | (go_at_call 46; refine (unhide HINS _).mono ?_; rintro e w5 ⟨hB5, he5⟩; have he5' : e = .returned (.tuple #[.slice none 0 0, .bool false]) := he5; subst he5'; have HB5 : Hid (Below w.heap.size w w5) := (((unhide HB3).alloc (by omega) _).drew).trans (hB5.mono (by simp; omega)); have HS5 := hide (unhide HKEY w5 (fun i hi => hB5.block i (by simp; omega))); clear he5 hB5))
      all_goals go_wp2_with fail
      all_goals go_ret2
      all_goals rw [unhide HHO]
      all_goals exact ⟨unhide HB5, rfl⟩
    | some m =>
      rw [ho] at HINS
      have HHO := hide ho
      clear ho
      go_wp2_with fail
      refine (unhide HCT _).mono ?_
      rintro e w1 ⟨rfl, hw⟩; have hw := hw.symm; subst hw
      go_wp2_with fail
      go_region_held3 (fun wq => wq.cell? ⟨gw, 2, none⟩ = some (.string y2) ∧ wq.cell? ⟨gw, 3, none⟩ = some (.string y3) ∧ wq.cell? ⟨w3.heap.size, 0, none⟩ = some (.int .i64 0) ∧ wq.cell? ⟨w3.heap.size, 1, none⟩ = some (.bool (!b)) ∧ wq.cell? ⟨w3.heap.size, 2, none⟩ = some (.string t)) (first | exact unhide HS0 | exact unhide HS5) (first | (go_at_call 43; refine (unhide HCC _ _ (by first | exact .inl rfl | exact .inr rfl)).mono ?_; rintro e w1 ⟨rfl, hw⟩; have hw := hw.symm; subst hw) | (go_at_call 46; refine (unhide HINS _).mono ?_; rintro e w5 ⟨hB5, g5, cap5, rfl, hra5, hc5, hd5⟩; have HB5 : Hid (Below w.heap.size w w5) := (((unhide HB3).alloc (by omega) _).drew).trans (hB5.mono (by simp; omega)); have HRA5 := hide hra5; have HS5 := hide (unhide HKEY w5 (fun i hi => hB5.block i (by simp; omega))); clear hB5 hra5))
      all_goals go_wp2_with fail
      all_goals go_ret2
      all_goals rw [unhide HHO]
      all_goals exact ⟨unhide HB5, g5, cap5, rfl, unhide HRA5, hc5, hd5⟩

end Go.Proofs.YtdaneedflpfeaaaGreatDoor

namespace Go.Proofs.YtdaneedflpfeaaaGreatDoor
set_option maxRecDepth 100000
open Go.RowKit

theorem stepW_none {W : List (List UInt8)} (h2 : ∀ x1, W ≠ [[100], x1]) (h3 : ∀ x1 x2, W ≠ [[114], x1, x2]) (h5 : ∀ x1 x2 x3 x4, W ≠ [[105], x1, x2, x3, x4]) : stepW W = none := by
  match W with
  | [] => rfl
  | [_] => rfl
  | [x, a] =>
    rw [stepW, if_neg (fun e => h2 a (by rw [e]))]
  | [x, a, b] =>
    rw [stepW, if_neg (fun e => h3 a b (by rw [e]))]
  | [_, _, _, _] => rfl
  | [x, a, b, c, d] =>
    rw [stepW, if_neg (fun e => h5 a b c d (by rw [e]))]
  | _ :: _ :: _ :: _ :: _ :: _ :: _ => rfl
/-- The document's Step, of every line. -/
theorem step_all (l : List Rw) (s : ByteArray) (g cap : Nat) (w : World) (hs : s.size ≤ 10000) (hl : l.length ≤ 1000000) (hd : ∀ x ∈ l, x.deep ≤ 1000000) (hn : RA w g 0 l) :
    Calls Tryz.prog 23 #[.slice (some ⟨g, 0, none⟩) l.length cap, .string s] w fun e w' => RowsR w (stepO l (stepW (splitL 32 s.data.toList))) e w' := by
  have hsz : ∀ x ∈ splitL 32 s.data.toList, x.length ≤ 10000 := fun x hx => by
    have := splitL_size 32 s.data.toList x hx
    have h2 : s.data.toList.length = s.size := rfl
    omega
  have hlen := (splitL_len 32 s.data.toList).1
  obtain ⟨W, hW⟩ : ∃ W, splitL 32 s.data.toList = W := ⟨_, rfl⟩
  rw [hW] at hsz hlen ⊢
  have hnil : l = [] ∨ 1 ≤ l.length := by cases l with | nil => exact .inl rfl | cons _ _ => exact .inr (by simp)
  by_cases c2 : ∃ x1, W = [[100], x1]
  · obtain ⟨x1, e⟩ := c2
    have z1 := hsz x1 (by rw [e]; simp)
    rcases hnil with rfl | h1
    · exact stepDNil s W x1 g cap w hs hW e z1 hn
    · exact stepD_any l s W x1 g cap w hs hW e h1 hl hd z1 hn
  by_cases c3 : ∃ x1 x2, W = [[114], x1, x2]
  · obtain ⟨x1, x2, e⟩ := c3
    have z1 := hsz x1 (by rw [e]; simp)
    have z2 := hsz x2 (by rw [e]; simp)
    rcases hnil with rfl | h1
    · exact stepRnNil s W x1 x2 g cap w hs hW e z1 z2 hn
    · exact stepRn_any l s W x1 x2 g cap w hs hW e h1 hl z1 z2 hn
  by_cases c5 : ∃ x1 x2 x3 x4, W = [[105], x1, x2, x3, x4]
  · obtain ⟨x1, x2, x3, x4, e⟩ := c5
    have z1 := hsz x1 (by rw [e]; simp)
    have z2 := hsz x2 (by rw [e]; simp)
    have z3 := hsz x3 (by rw [e]; simp)
    have z4 := hsz x4 (by rw [e]; simp)
    rcases hnil with rfl | h1
    · exact stepINil s W x1 x2 x3 x4 g cap w hs hW e z1 z2 z3 z4 hn
    · exact stepI_any l s W x1 x2 x3 x4 g cap w hs hW e h1 hl hd z1 z2 z3 z4 hn
  have hno : stepW W = none := stepW_none (fun x1 e => c2 ⟨x1, e⟩) (fun x1 x2 e => c3 ⟨x1, x2, e⟩) (fun x1 x2 x3 x4 e => c5 ⟨x1, x2, x3, x4, e⟩)
  by_cases k1 : W.length = 1
  · rcases hnil with rfl | h1
    · exact stepNo1Nil s W g cap w hs hW k1 hno hn
    · exact stepNo1 l s W g cap w hs hW k1 hno h1 hl hn
  obtain ⟨x0, hx0⟩ : ∃ x0, W[0]? = some x0 := ⟨_, List.getElem?_eq_getElem (by omega)⟩
  obtain ⟨x1, hx1⟩ : ∃ x1, W[1]? = some x1 := ⟨_, List.getElem?_eq_getElem (by omega)⟩
  have z1 := hsz x1 (List.mem_of_getElem? hx1)
  by_cases k2 : W.length = 2
  · have hne : x0 ≠ [100] := fun e => by
      obtain ⟨a, b, q⟩ := len2 k2
      rw [q] at hx0; simp at hx0
      exact c2 ⟨b, by rw [q, hx0, e]⟩
    rcases hnil with rfl | h1
    · exact stepNo2Nil s W g cap w hs hW k2 hno x0 hx0 hne x1 hx1 z1 hn
    · exact stepNo2 l s W g cap w hs hW k2 hno x0 hx0 hne x1 hx1 z1 h1 hl hn
  by_cases k3 : W.length = 3
  · have hne : x0 ≠ [114] := fun e => by
      obtain ⟨a, b, c, q⟩ := len3 k3
      rw [q] at hx0; simp at hx0
      exact c3 ⟨b, c, by rw [q, hx0, e]⟩
    rcases hnil with rfl | h1
    · exact stepNo3Nil s W g cap w hs hW k3 hno x0 hx0 hne x1 hx1 z1 hn
    · exact stepNo3 l s W g cap w hs hW k3 hno x0 hx0 hne x1 hx1 z1 h1 hl hn
  by_cases k5 : W.length = 5
  · have hne : x0 ≠ [105] := fun e => by
      obtain ⟨a, b, c, d, f, q⟩ := len5 k5
      rw [q] at hx0; simp at hx0
      exact c5 ⟨b, c, d, f, by rw [q, hx0, e]⟩
    rcases hnil with rfl | h1
    · exact stepNo5Nil s W g cap w hs hW k5 hno x0 hx0 hne x1 hx1 z1 hn
    · exact stepNo5 l s W g cap w hs hW k5 hno x0 hx0 hne x1 hx1 z1 h1 hl hn
  have n2 : ((W.length : Int) == 2) = false := by rw [beq_eq_false_iff_ne]; omega
  have n3 : ((W.length : Int) == 3) = false := by rw [beq_eq_false_iff_ne]; omega
  have n5 : ((W.length : Int) == 5) = false := by rw [beq_eq_false_iff_ne]; omega
  rcases hnil with rfl | h1
  · exact stepNoxNil s W g cap w hs hW (by omega) n2 n3 n5 hno x1 hx1 z1 hn
  · exact stepNox l s W g cap w hs hW (by omega) n2 n3 n5 hno x1 hx1 z1 h1 hl hn

end Go.Proofs.YtdaneedflpfeaaaGreatDoor
