import Derived.Test.YtdaneedflpfeaaaGreatDoorRefQ9
namespace Go.Proofs.YtdaneedflpfeaaaGreatDoor
set_option maxRecDepth 100000
open Go.RowKit

/-- append(nil, no rows...): nil. -/
theorem append_nil0 {w : World} {ops : Array Oper} {rest : List Oper} {o : Oper} {a : Act} {Q : Exit → Act → World → Prop} (hgd : o.guard = none) (s x : Operand)
    (ho : o.op = .call { callee := .builtin .append, args := #[s, x], argTypes := #[25, 25] }) (g cap : Nat)
    (hs : a.eval s = .slice none 0 0) (hx : a.eval x = .slice (some ⟨g, 0, none⟩) 0 cap) (_hg : g < w.heap.size)
    (h : ∀ w', w.grownBy w' none → wpList Tryz.prog ops Q rest (a.put o.dst (.slice none 0 0)) w') : wpList Tryz.prog ops Q (o :: rest) a w := by
  obtain ⟨i0, hi, hz0, hz1, hz2⟩ := info_parts Tryz.infoRow
  refine wpList_append_own w hgd s x 25 ho w.heap.size 51 i0 (.agg #[.int .i64 0, .bool false, .string ⟨#[]⟩]) 3 32 Tryz.underlying25 hi hz0 hz1 hz2 rfl (by decide) (.slice none 0 0) 0 [] hs (World.ownsRow_nil _ _ _ _) ⟨g, 0, none⟩ 0 cap [] hx rfl (fun j u hu => by simp at hu) (fun u hu => by simp at hu) (by unfold maxLen; omega) (by omega) (Nat.le_refl _) ?_
  intro v' w' _ h2 h3
  have e := h3.2 ⟨rfl, rfl⟩
  subst e
  exact h w' h2

set_option maxHeartbeats 3200000 in
theorem stepNo1 (l : List Rw) (s : ByteArray) (W : List (List UInt8)) (g cap : Nat) (w : World) (hs : s.size ≤ 10000) (hW : splitL 32 s.data.toList = W) (hk : W.length = 1) (hno : stepW W = none) (hl1 : 1 ≤ l.length) (hl : l.length ≤ 1000000) (hn : RA w g 0 l) :
    Calls Tryz.prog 23 #[.slice (some ⟨g, 0, none⟩) l.length cap, .string s] w fun e w' => RowsR w (stepO l (stepW W)) e w' := by
  have HC : Hid (∀ wx, Calls Tryz.prog 22 #[.string s, .int .u8 32] wx fun e w' => Below wx.heap.size wx w' ∧ ∃ g cap, e = .returned (.slice (some ⟨g, 0, none⟩) W.length cap) ∧ g < w'.heap.size ∧ w'.ownsRow wx.heap.size 9 1 (.slice (some ⟨g, 0, none⟩) W.length cap) W.length (strsV W)) := fun wx => by
    have := cut_any s 32 wx (by omega)
    rw [hW] at this
    exact this
  have HN := hide hn
  have hgl := hn.lt
  clear hn hW
  go_enter Tryz.func23, Tryz.ntmps23
  go_wp2_with fail
  refine (unhide HC _).mono ?_
  rintro e w1 ⟨hB1, gw, capw, rfl, hgw, how⟩
  have hsz1 := hB1.size
  have HB1 := hide hB1
  have HN1 := hide ((unhide HN).below hB1 hgl)
  have HCELL : Hid (∀ i x, W[i]? = some x → w1.cell? ⟨gw, i, none⟩ = some (.string (mk x))) := fun i x hx => by
    have hi : i < W.length := by
      rcases Nat.lt_or_ge i W.length with h | h
      · exact h
      · rw [List.getElem?_eq_none h] at hx; cases hx
    rw [how.cellAt i (by omega)]
    simp [strsV, hx]
  clear hB1 how HC HN
  have HR : Hid (stepO l (stepW W) = none) := by show _ = _; rw [hno]; rfl
  rw [hk]
  clear HCELL hno
  go_wp2_with (first | (at_builtin; refine append_rws rfl _ _ rfl w1.heap.size (.slice none 0 0) (.slice (some ⟨g, 0, none⟩) l.length cap) [] l rfl rfl (World.ownsRow_nil _ _ _ _) (.inr ⟨g, 0, cap, rfl, unhide HN1⟩) (Nat.le_refl _) (by simp; omega) ?_) | fail)
  intro F v2 w2 hF ho2 hg2
  have hF2 : l = F := by first | exact hF.symm | (rw [hF]; rfl)
  clear hF
  subst hF2
  have HB2 : Hid (Below w.heap.size w w2) := below_appR (unhide HB1) (World.ownsRow_nil _ w.heap.size _ _) (Nat.le_refl _) hg2
  have hsz2 := hg2.size
  have HCL2 : Hid (∀ i, w2.cell? ⟨gw, i, none⟩ = w1.cell? ⟨gw, i, none⟩) := fun i => World.cell?_of_block (hg2.block gw hgw (by simp [Value.ownBlock]))
  rcases row_form ho2 with ⟨_, h0⟩ | ⟨g2, cap2, rfl, hg2'⟩
  · omega
  have HO2 := hide ho2
  have hlo2 := (ho2.lt g2 rfl).1
  have HCP2 := hide (own_capR ho2)
  clear ho2 hg2 HN1
  go_wp2_with fail
  go_ret2
  rw [unhide HR]
  exact ⟨unhide HB2, rfl⟩
set_option maxHeartbeats 3200000 in
theorem stepNo2 (l : List Rw) (s : ByteArray) (W : List (List UInt8)) (g cap : Nat) (w : World) (hs : s.size ≤ 10000) (hW : splitL 32 s.data.toList = W) (hk : W.length = 2) (hno : stepW W = none) (x0 : List UInt8) (h0 : W[0]? = some x0) (hx0 : x0 ≠ [100]) (x1 : List UInt8) (h1 : W[1]? = some x1) (hz1 : x1.length ≤ 10000) (hl1 : 1 ≤ l.length) (hl : l.length ≤ 1000000) (hn : RA w g 0 l) :
    Calls Tryz.prog 23 #[.slice (some ⟨g, 0, none⟩) l.length cap, .string s] w fun e w' => RowsR w (stepO l (stepW W)) e w' := by
  have HC : Hid (∀ wx, Calls Tryz.prog 22 #[.string s, .int .u8 32] wx fun e w' => Below wx.heap.size wx w' ∧ ∃ g cap, e = .returned (.slice (some ⟨g, 0, none⟩) W.length cap) ∧ g < w'.heap.size ∧ w'.ownsRow wx.heap.size 9 1 (.slice (some ⟨g, 0, none⟩) W.length cap) W.length (strsV W)) := fun wx => by
    have := cut_any s 32 wx (by omega)
    rw [hW] at this
    exact this
  have HN := hide hn
  have hgl := hn.lt
  clear hn hW
  go_enter Tryz.func23, Tryz.ntmps23
  go_wp2_with fail
  refine (unhide HC _).mono ?_
  rintro e w1 ⟨hB1, gw, capw, rfl, hgw, how⟩
  have hsz1 := hB1.size
  have HB1 := hide hB1
  have HN1 := hide ((unhide HN).below hB1 hgl)
  have HCELL : Hid (∀ i x, W[i]? = some x → w1.cell? ⟨gw, i, none⟩ = some (.string (mk x))) := fun i x hx => by
    have hi : i < W.length := by
      rcases Nat.lt_or_ge i W.length with h | h
      · exact h
      · rw [List.getElem?_eq_none h] at hx; cases hx
    rw [how.cellAt i (by omega)]
    simp [strsV, hx]
  clear hB1 how HC HN
  have HR : Hid (stepO l (stepW W) = none) := by show _ = _; rw [hno]; rfl
  have c0 := unhide HCELL 0 x0 h0
  have c1 := unhide HCELL 1 x1 h1
  have HCT : Hid (∀ wx, Calls Tryz.prog 43 #[.string (mk x1)] wx fun e w' => e = .returned (.int .i64 (cntR (numV x1))) ∧ w' = wx) := fun wx => refCount_any (mk x1) wx (by rw [mk_size]; omega)
  have hcb := cntR_bd x1
  generalize cntR (numV x1) = c at *
  generalize mk x1 = y1 at *
  have he : ((mk x0).toList == [100]) = false := by rw [mk_eq]; simp [hx0]
  generalize mk x0 = y0 at *
  rw [hk]
  clear HCELL hno
  go_wp2_with fail
  refine (unhide HCT _).mono ?_
  rintro e w1 ⟨rfl, hw⟩; have hw := hw.symm; subst hw
  go_wp2_with (first | (at_builtin; refine append_rws rfl _ _ rfl w1.heap.size (.slice none 0 0) (.slice (some ⟨g, 0, none⟩) l.length cap) [] l rfl rfl (World.ownsRow_nil _ _ _ _) (.inr ⟨g, 0, cap, rfl, unhide HN1⟩) (Nat.le_refl _) (by simp; omega) ?_) | fail)
  intro F v2 w2 hF ho2 hg2
  have hF2 : l = F := by first | exact hF.symm | (rw [hF]; rfl)
  clear hF
  subst hF2
  have HB2 : Hid (Below w.heap.size w w2) := below_appR (unhide HB1) (World.ownsRow_nil _ w.heap.size _ _) (Nat.le_refl _) hg2
  have hsz2 := hg2.size
  have HCL2 : Hid (∀ i, w2.cell? ⟨gw, i, none⟩ = w1.cell? ⟨gw, i, none⟩) := fun i => World.cell?_of_block (hg2.block gw hgw (by simp [Value.ownBlock]))
  rcases row_form ho2 with ⟨_, h0⟩ | ⟨g2, cap2, rfl, hg2'⟩
  · omega
  have HO2 := hide ho2
  have hlo2 := (ho2.lt g2 rfl).1
  have HCP2 := hide (own_capR ho2)
  clear ho2 hg2 HN1
  have d0 := (unhide HCL2 0).trans c0
  go_wp2_with fail
  go_ret2
  rw [unhide HR]
  exact ⟨unhide HB2, rfl⟩
set_option maxHeartbeats 3200000 in
theorem stepNo3 (l : List Rw) (s : ByteArray) (W : List (List UInt8)) (g cap : Nat) (w : World) (hs : s.size ≤ 10000) (hW : splitL 32 s.data.toList = W) (hk : W.length = 3) (hno : stepW W = none) (x0 : List UInt8) (h0 : W[0]? = some x0) (hx0 : x0 ≠ [114]) (x1 : List UInt8) (h1 : W[1]? = some x1) (hz1 : x1.length ≤ 10000) (hl1 : 1 ≤ l.length) (hl : l.length ≤ 1000000) (hn : RA w g 0 l) :
    Calls Tryz.prog 23 #[.slice (some ⟨g, 0, none⟩) l.length cap, .string s] w fun e w' => RowsR w (stepO l (stepW W)) e w' := by
  have HC : Hid (∀ wx, Calls Tryz.prog 22 #[.string s, .int .u8 32] wx fun e w' => Below wx.heap.size wx w' ∧ ∃ g cap, e = .returned (.slice (some ⟨g, 0, none⟩) W.length cap) ∧ g < w'.heap.size ∧ w'.ownsRow wx.heap.size 9 1 (.slice (some ⟨g, 0, none⟩) W.length cap) W.length (strsV W)) := fun wx => by
    have := cut_any s 32 wx (by omega)
    rw [hW] at this
    exact this
  have HN := hide hn
  have hgl := hn.lt
  clear hn hW
  go_enter Tryz.func23, Tryz.ntmps23
  go_wp2_with fail
  refine (unhide HC _).mono ?_
  rintro e w1 ⟨hB1, gw, capw, rfl, hgw, how⟩
  have hsz1 := hB1.size
  have HB1 := hide hB1
  have HN1 := hide ((unhide HN).below hB1 hgl)
  have HCELL : Hid (∀ i x, W[i]? = some x → w1.cell? ⟨gw, i, none⟩ = some (.string (mk x))) := fun i x hx => by
    have hi : i < W.length := by
      rcases Nat.lt_or_ge i W.length with h | h
      · exact h
      · rw [List.getElem?_eq_none h] at hx; cases hx
    rw [how.cellAt i (by omega)]
    simp [strsV, hx]
  clear hB1 how HC HN
  have HR : Hid (stepO l (stepW W) = none) := by show _ = _; rw [hno]; rfl
  have c0 := unhide HCELL 0 x0 h0
  have c1 := unhide HCELL 1 x1 h1
  have HCT : Hid (∀ wx, Calls Tryz.prog 43 #[.string (mk x1)] wx fun e w' => e = .returned (.int .i64 (cntR (numV x1))) ∧ w' = wx) := fun wx => refCount_any (mk x1) wx (by rw [mk_size]; omega)
  have hcb := cntR_bd x1
  generalize cntR (numV x1) = c at *
  generalize mk x1 = y1 at *
  have he : ((mk x0).toList == [114]) = false := by rw [mk_eq]; simp [hx0]
  generalize mk x0 = y0 at *
  rw [hk]
  clear HCELL hno
  go_wp2_with fail
  refine (unhide HCT _).mono ?_
  rintro e w1 ⟨rfl, hw⟩; have hw := hw.symm; subst hw
  go_wp2_with (first | (at_builtin; refine append_rws rfl _ _ rfl w1.heap.size (.slice none 0 0) (.slice (some ⟨g, 0, none⟩) l.length cap) [] l rfl rfl (World.ownsRow_nil _ _ _ _) (.inr ⟨g, 0, cap, rfl, unhide HN1⟩) (Nat.le_refl _) (by simp; omega) ?_) | fail)
  intro F v2 w2 hF ho2 hg2
  have hF2 : l = F := by first | exact hF.symm | (rw [hF]; rfl)
  clear hF
  subst hF2
  have HB2 : Hid (Below w.heap.size w w2) := below_appR (unhide HB1) (World.ownsRow_nil _ w.heap.size _ _) (Nat.le_refl _) hg2
  have hsz2 := hg2.size
  have HCL2 : Hid (∀ i, w2.cell? ⟨gw, i, none⟩ = w1.cell? ⟨gw, i, none⟩) := fun i => World.cell?_of_block (hg2.block gw hgw (by simp [Value.ownBlock]))
  rcases row_form ho2 with ⟨_, h0⟩ | ⟨g2, cap2, rfl, hg2'⟩
  · omega
  have HO2 := hide ho2
  have hlo2 := (ho2.lt g2 rfl).1
  have HCP2 := hide (own_capR ho2)
  clear ho2 hg2 HN1
  have d0 := (unhide HCL2 0).trans c0
  go_wp2_with fail
  go_ret2
  rw [unhide HR]
  exact ⟨unhide HB2, rfl⟩
set_option maxHeartbeats 3200000 in
theorem stepNo5 (l : List Rw) (s : ByteArray) (W : List (List UInt8)) (g cap : Nat) (w : World) (hs : s.size ≤ 10000) (hW : splitL 32 s.data.toList = W) (hk : W.length = 5) (hno : stepW W = none) (x0 : List UInt8) (h0 : W[0]? = some x0) (hx0 : x0 ≠ [105]) (x1 : List UInt8) (h1 : W[1]? = some x1) (hz1 : x1.length ≤ 10000) (hl1 : 1 ≤ l.length) (hl : l.length ≤ 1000000) (hn : RA w g 0 l) :
    Calls Tryz.prog 23 #[.slice (some ⟨g, 0, none⟩) l.length cap, .string s] w fun e w' => RowsR w (stepO l (stepW W)) e w' := by
  have HC : Hid (∀ wx, Calls Tryz.prog 22 #[.string s, .int .u8 32] wx fun e w' => Below wx.heap.size wx w' ∧ ∃ g cap, e = .returned (.slice (some ⟨g, 0, none⟩) W.length cap) ∧ g < w'.heap.size ∧ w'.ownsRow wx.heap.size 9 1 (.slice (some ⟨g, 0, none⟩) W.length cap) W.length (strsV W)) := fun wx => by
    have := cut_any s 32 wx (by omega)
    rw [hW] at this
    exact this
  have HN := hide hn
  have hgl := hn.lt
  clear hn hW
  go_enter Tryz.func23, Tryz.ntmps23
  go_wp2_with fail
  refine (unhide HC _).mono ?_
  rintro e w1 ⟨hB1, gw, capw, rfl, hgw, how⟩
  have hsz1 := hB1.size
  have HB1 := hide hB1
  have HN1 := hide ((unhide HN).below hB1 hgl)
  have HCELL : Hid (∀ i x, W[i]? = some x → w1.cell? ⟨gw, i, none⟩ = some (.string (mk x))) := fun i x hx => by
    have hi : i < W.length := by
      rcases Nat.lt_or_ge i W.length with h | h
      · exact h
      · rw [List.getElem?_eq_none h] at hx; cases hx
    rw [how.cellAt i (by omega)]
    simp [strsV, hx]
  clear hB1 how HC HN
  have HR : Hid (stepO l (stepW W) = none) := by show _ = _; rw [hno]; rfl
  have c0 := unhide HCELL 0 x0 h0
  have c1 := unhide HCELL 1 x1 h1
  have HCT : Hid (∀ wx, Calls Tryz.prog 43 #[.string (mk x1)] wx fun e w' => e = .returned (.int .i64 (cntR (numV x1))) ∧ w' = wx) := fun wx => refCount_any (mk x1) wx (by rw [mk_size]; omega)
  have hcb := cntR_bd x1
  generalize cntR (numV x1) = c at *
  generalize mk x1 = y1 at *
  have he : ((mk x0).toList == [105]) = false := by rw [mk_eq]; simp [hx0]
  generalize mk x0 = y0 at *
  rw [hk]
  clear HCELL hno
  go_wp2_with fail
  refine (unhide HCT _).mono ?_
  rintro e w1 ⟨rfl, hw⟩; have hw := hw.symm; subst hw
  go_wp2_with (first | (at_builtin; refine append_rws rfl _ _ rfl w1.heap.size (.slice none 0 0) (.slice (some ⟨g, 0, none⟩) l.length cap) [] l rfl rfl (World.ownsRow_nil _ _ _ _) (.inr ⟨g, 0, cap, rfl, unhide HN1⟩) (Nat.le_refl _) (by simp; omega) ?_) | fail)
  intro F v2 w2 hF ho2 hg2
  have hF2 : l = F := by first | exact hF.symm | (rw [hF]; rfl)
  clear hF
  subst hF2
  have HB2 : Hid (Below w.heap.size w w2) := below_appR (unhide HB1) (World.ownsRow_nil _ w.heap.size _ _) (Nat.le_refl _) hg2
  have hsz2 := hg2.size
  have HCL2 : Hid (∀ i, w2.cell? ⟨gw, i, none⟩ = w1.cell? ⟨gw, i, none⟩) := fun i => World.cell?_of_block (hg2.block gw hgw (by simp [Value.ownBlock]))
  rcases row_form ho2 with ⟨_, h0⟩ | ⟨g2, cap2, rfl, hg2'⟩
  · omega
  have HO2 := hide ho2
  have hlo2 := (ho2.lt g2 rfl).1
  have HCP2 := hide (own_capR ho2)
  clear ho2 hg2 HN1
  have d0 := (unhide HCL2 0).trans c0
  go_wp2_with fail
  go_ret2
  rw [unhide HR]
  exact ⟨unhide HB2, rfl⟩
set_option maxHeartbeats 3200000 in
theorem stepNox (l : List Rw) (s : ByteArray) (W : List (List UInt8)) (g cap : Nat) (w : World) (hs : s.size ≤ 10000) (hW : splitL 32 s.data.toList = W) (hk : 1 < W.length) (n2 : ((W.length : Int) == 2) = false) (n3 : ((W.length : Int) == 3) = false) (n5 : ((W.length : Int) == 5) = false) (hno : stepW W = none) (x1 : List UInt8) (h1 : W[1]? = some x1) (hz1 : x1.length ≤ 10000) (hl1 : 1 ≤ l.length) (hl : l.length ≤ 1000000) (hn : RA w g 0 l) :
    Calls Tryz.prog 23 #[.slice (some ⟨g, 0, none⟩) l.length cap, .string s] w fun e w' => RowsR w (stepO l (stepW W)) e w' := by
  have HC : Hid (∀ wx, Calls Tryz.prog 22 #[.string s, .int .u8 32] wx fun e w' => Below wx.heap.size wx w' ∧ ∃ g cap, e = .returned (.slice (some ⟨g, 0, none⟩) W.length cap) ∧ g < w'.heap.size ∧ w'.ownsRow wx.heap.size 9 1 (.slice (some ⟨g, 0, none⟩) W.length cap) W.length (strsV W)) := fun wx => by
    have := cut_any s 32 wx (by omega)
    rw [hW] at this
    exact this
  have HN := hide hn
  have hgl := hn.lt
  clear hn hW
  go_enter Tryz.func23, Tryz.ntmps23
  go_wp2_with fail
  refine (unhide HC _).mono ?_
  rintro e w1 ⟨hB1, gw, capw, rfl, hgw, how⟩
  have hsz1 := hB1.size
  have HB1 := hide hB1
  have HN1 := hide ((unhide HN).below hB1 hgl)
  have HCELL : Hid (∀ i x, W[i]? = some x → w1.cell? ⟨gw, i, none⟩ = some (.string (mk x))) := fun i x hx => by
    have hi : i < W.length := by
      rcases Nat.lt_or_ge i W.length with h | h
      · exact h
      · rw [List.getElem?_eq_none h] at hx; cases hx
    rw [how.cellAt i (by omega)]
    simp [strsV, hx]
  clear hB1 how HC HN
  have HR : Hid (stepO l (stepW W) = none) := by show _ = _; rw [hno]; rfl
  have c1 := unhide HCELL 1 x1 h1
  have HCT : Hid (∀ wx, Calls Tryz.prog 43 #[.string (mk x1)] wx fun e w' => e = .returned (.int .i64 (cntR (numV x1))) ∧ w' = wx) := fun wx => refCount_any (mk x1) wx (by rw [mk_size]; omega)
  have hcb := cntR_bd x1
  generalize cntR (numV x1) = c at *
  generalize mk x1 = y1 at *
  have hk1 : (1 : Int) < (W.length : Int) := by omega
  generalize W.length = wl at *
  clear HCELL hno
  go_wp2_with fail
  refine (unhide HCT _).mono ?_
  rintro e w1 ⟨rfl, hw⟩; have hw := hw.symm; subst hw
  go_wp2_with (first | (at_builtin; refine append_rws rfl _ _ rfl w1.heap.size (.slice none 0 0) (.slice (some ⟨g, 0, none⟩) l.length cap) [] l rfl rfl (World.ownsRow_nil _ _ _ _) (.inr ⟨g, 0, cap, rfl, unhide HN1⟩) (Nat.le_refl _) (by simp; omega) ?_) | fail)
  intro F v2 w2 hF ho2 hg2
  have hF2 : l = F := by first | exact hF.symm | (rw [hF]; rfl)
  clear hF
  subst hF2
  have HB2 : Hid (Below w.heap.size w w2) := below_appR (unhide HB1) (World.ownsRow_nil _ w.heap.size _ _) (Nat.le_refl _) hg2
  have hsz2 := hg2.size
  have HCL2 : Hid (∀ i, w2.cell? ⟨gw, i, none⟩ = w1.cell? ⟨gw, i, none⟩) := fun i => World.cell?_of_block (hg2.block gw hgw (by simp [Value.ownBlock]))
  rcases row_form ho2 with ⟨_, h0⟩ | ⟨g2, cap2, rfl, hg2'⟩
  · omega
  have HO2 := hide ho2
  have hlo2 := (ho2.lt g2 rfl).1
  have HCP2 := hide (own_capR ho2)
  clear ho2 hg2 HN1
  go_wp2_with fail
  go_ret2
  rw [unhide HR]
  exact ⟨unhide HB2, rfl⟩
set_option maxHeartbeats 3200000 in
theorem stepNo1Nil (s : ByteArray) (W : List (List UInt8)) (g cap : Nat) (w : World) (hs : s.size ≤ 10000) (hW : splitL 32 s.data.toList = W) (hk : W.length = 1) (hno : stepW W = none) (hn : RA w g 0 []) :
    Calls Tryz.prog 23 #[.slice (some ⟨g, 0, none⟩) 0 cap, .string s] w fun e w' => RowsR w (stepO [] (stepW W)) e w' := by
  have HC : Hid (∀ wx, Calls Tryz.prog 22 #[.string s, .int .u8 32] wx fun e w' => Below wx.heap.size wx w' ∧ ∃ g cap, e = .returned (.slice (some ⟨g, 0, none⟩) W.length cap) ∧ g < w'.heap.size ∧ w'.ownsRow wx.heap.size 9 1 (.slice (some ⟨g, 0, none⟩) W.length cap) W.length (strsV W)) := fun wx => by
    have := cut_any s 32 wx (by omega)
    rw [hW] at this
    exact this
  have HN := hide hn
  have hgl := hn.lt
  clear hn hW
  go_enter Tryz.func23, Tryz.ntmps23
  go_wp2_with fail
  refine (unhide HC _).mono ?_
  rintro e w1 ⟨hB1, gw, capw, rfl, hgw, how⟩
  have hsz1 := hB1.size
  have HB1 := hide hB1
  have HN1 := hide ((unhide HN).below hB1 hgl)
  have HCELL : Hid (∀ i x, W[i]? = some x → w1.cell? ⟨gw, i, none⟩ = some (.string (mk x))) := fun i x hx => by
    have hi : i < W.length := by
      rcases Nat.lt_or_ge i W.length with h | h
      · exact h
      · rw [List.getElem?_eq_none h] at hx; cases hx
    rw [how.cellAt i (by omega)]
    simp [strsV, hx]
  clear hB1 how HC HN
  have HR : Hid (stepO [] (stepW W) = none) := by show _ = _; rw [hno]; rfl
  rw [hk]
  clear HCELL hno
  go_wp2_with (first | (at_builtin; refine append_nil0 rfl _ _ rfl g cap rfl rfl (unhide HN1).lt ?_) | fail)
  intro w2 hg2
  have HB2 : Hid (Below w.heap.size w w2) := (unhide HB1).grown hg2 (unhide HB1).size (fun k hk => by cases hk)
  have hsz2 := hg2.size
  have HCL2 : Hid (∀ i, w2.cell? ⟨gw, i, none⟩ = w1.cell? ⟨gw, i, none⟩) := fun i => World.cell?_of_block (hg2.block gw hgw (by simp))
  clear hg2 HN1
  go_wp2_with fail
  go_ret2
  rw [unhide HR]
  exact ⟨unhide HB2, rfl⟩
set_option maxHeartbeats 3200000 in
theorem stepNo2Nil (s : ByteArray) (W : List (List UInt8)) (g cap : Nat) (w : World) (hs : s.size ≤ 10000) (hW : splitL 32 s.data.toList = W) (hk : W.length = 2) (hno : stepW W = none) (x0 : List UInt8) (h0 : W[0]? = some x0) (hx0 : x0 ≠ [100]) (x1 : List UInt8) (h1 : W[1]? = some x1) (hz1 : x1.length ≤ 10000) (hn : RA w g 0 []) :
    Calls Tryz.prog 23 #[.slice (some ⟨g, 0, none⟩) 0 cap, .string s] w fun e w' => RowsR w (stepO [] (stepW W)) e w' := by
  have HC : Hid (∀ wx, Calls Tryz.prog 22 #[.string s, .int .u8 32] wx fun e w' => Below wx.heap.size wx w' ∧ ∃ g cap, e = .returned (.slice (some ⟨g, 0, none⟩) W.length cap) ∧ g < w'.heap.size ∧ w'.ownsRow wx.heap.size 9 1 (.slice (some ⟨g, 0, none⟩) W.length cap) W.length (strsV W)) := fun wx => by
    have := cut_any s 32 wx (by omega)
    rw [hW] at this
    exact this
  have HN := hide hn
  have hgl := hn.lt
  clear hn hW
  go_enter Tryz.func23, Tryz.ntmps23
  go_wp2_with fail
  refine (unhide HC _).mono ?_
  rintro e w1 ⟨hB1, gw, capw, rfl, hgw, how⟩
  have hsz1 := hB1.size
  have HB1 := hide hB1
  have HN1 := hide ((unhide HN).below hB1 hgl)
  have HCELL : Hid (∀ i x, W[i]? = some x → w1.cell? ⟨gw, i, none⟩ = some (.string (mk x))) := fun i x hx => by
    have hi : i < W.length := by
      rcases Nat.lt_or_ge i W.length with h | h
      · exact h
      · rw [List.getElem?_eq_none h] at hx; cases hx
    rw [how.cellAt i (by omega)]
    simp [strsV, hx]
  clear hB1 how HC HN
  have HR : Hid (stepO [] (stepW W) = none) := by show _ = _; rw [hno]; rfl
  have c0 := unhide HCELL 0 x0 h0
  have c1 := unhide HCELL 1 x1 h1
  have HCT : Hid (∀ wx, Calls Tryz.prog 43 #[.string (mk x1)] wx fun e w' => e = .returned (.int .i64 (cntR (numV x1))) ∧ w' = wx) := fun wx => refCount_any (mk x1) wx (by rw [mk_size]; omega)
  have hcb := cntR_bd x1
  generalize cntR (numV x1) = c at *
  generalize mk x1 = y1 at *
  have he : ((mk x0).toList == [100]) = false := by rw [mk_eq]; simp [hx0]
  generalize mk x0 = y0 at *
  rw [hk]
  clear HCELL hno
  go_wp2_with fail
  refine (unhide HCT _).mono ?_
  rintro e w1 ⟨rfl, hw⟩; have hw := hw.symm; subst hw
  go_wp2_with (first | (at_builtin; refine append_nil0 rfl _ _ rfl g cap rfl rfl (unhide HN1).lt ?_) | fail)
  intro w2 hg2
  have HB2 : Hid (Below w.heap.size w w2) := (unhide HB1).grown hg2 (unhide HB1).size (fun k hk => by cases hk)
  have hsz2 := hg2.size
  have HCL2 : Hid (∀ i, w2.cell? ⟨gw, i, none⟩ = w1.cell? ⟨gw, i, none⟩) := fun i => World.cell?_of_block (hg2.block gw hgw (by simp))
  clear hg2 HN1
  have d0 := (unhide HCL2 0).trans c0
  go_wp2_with fail
  go_ret2
  rw [unhide HR]
  exact ⟨unhide HB2, rfl⟩
set_option maxHeartbeats 3200000 in
theorem stepNo3Nil (s : ByteArray) (W : List (List UInt8)) (g cap : Nat) (w : World) (hs : s.size ≤ 10000) (hW : splitL 32 s.data.toList = W) (hk : W.length = 3) (hno : stepW W = none) (x0 : List UInt8) (h0 : W[0]? = some x0) (hx0 : x0 ≠ [114]) (x1 : List UInt8) (h1 : W[1]? = some x1) (hz1 : x1.length ≤ 10000) (hn : RA w g 0 []) :
    Calls Tryz.prog 23 #[.slice (some ⟨g, 0, none⟩) 0 cap, .string s] w fun e w' => RowsR w (stepO [] (stepW W)) e w' := by
  have HC : Hid (∀ wx, Calls Tryz.prog 22 #[.string s, .int .u8 32] wx fun e w' => Below wx.heap.size wx w' ∧ ∃ g cap, e = .returned (.slice (some ⟨g, 0, none⟩) W.length cap) ∧ g < w'.heap.size ∧ w'.ownsRow wx.heap.size 9 1 (.slice (some ⟨g, 0, none⟩) W.length cap) W.length (strsV W)) := fun wx => by
    have := cut_any s 32 wx (by omega)
    rw [hW] at this
    exact this
  have HN := hide hn
  have hgl := hn.lt
  clear hn hW
  go_enter Tryz.func23, Tryz.ntmps23
  go_wp2_with fail
  refine (unhide HC _).mono ?_
  rintro e w1 ⟨hB1, gw, capw, rfl, hgw, how⟩
  have hsz1 := hB1.size
  have HB1 := hide hB1
  have HN1 := hide ((unhide HN).below hB1 hgl)
  have HCELL : Hid (∀ i x, W[i]? = some x → w1.cell? ⟨gw, i, none⟩ = some (.string (mk x))) := fun i x hx => by
    have hi : i < W.length := by
      rcases Nat.lt_or_ge i W.length with h | h
      · exact h
      · rw [List.getElem?_eq_none h] at hx; cases hx
    rw [how.cellAt i (by omega)]
    simp [strsV, hx]
  clear hB1 how HC HN
  have HR : Hid (stepO [] (stepW W) = none) := by show _ = _; rw [hno]; rfl
  have c0 := unhide HCELL 0 x0 h0
  have c1 := unhide HCELL 1 x1 h1
  have HCT : Hid (∀ wx, Calls Tryz.prog 43 #[.string (mk x1)] wx fun e w' => e = .returned (.int .i64 (cntR (numV x1))) ∧ w' = wx) := fun wx => refCount_any (mk x1) wx (by rw [mk_size]; omega)
  have hcb := cntR_bd x1
  generalize cntR (numV x1) = c at *
  generalize mk x1 = y1 at *
  have he : ((mk x0).toList == [114]) = false := by rw [mk_eq]; simp [hx0]
  generalize mk x0 = y0 at *
  rw [hk]
  clear HCELL hno
  go_wp2_with fail
  refine (unhide HCT _).mono ?_
  rintro e w1 ⟨rfl, hw⟩; have hw := hw.symm; subst hw
  go_wp2_with (first | (at_builtin; refine append_nil0 rfl _ _ rfl g cap rfl rfl (unhide HN1).lt ?_) | fail)
  intro w2 hg2
  have HB2 : Hid (Below w.heap.size w w2) := (unhide HB1).grown hg2 (unhide HB1).size (fun k hk => by cases hk)
  have hsz2 := hg2.size
  have HCL2 : Hid (∀ i, w2.cell? ⟨gw, i, none⟩ = w1.cell? ⟨gw, i, none⟩) := fun i => World.cell?_of_block (hg2.block gw hgw (by simp))
  clear hg2 HN1
  have d0 := (unhide HCL2 0).trans c0
  go_wp2_with fail
  go_ret2
  rw [unhide HR]
  exact ⟨unhide HB2, rfl⟩
set_option maxHeartbeats 3200000 in
theorem stepNo5Nil (s : ByteArray) (W : List (List UInt8)) (g cap : Nat) (w : World) (hs : s.size ≤ 10000) (hW : splitL 32 s.data.toList = W) (hk : W.length = 5) (hno : stepW W = none) (x0 : List UInt8) (h0 : W[0]? = some x0) (hx0 : x0 ≠ [105]) (x1 : List UInt8) (h1 : W[1]? = some x1) (hz1 : x1.length ≤ 10000) (hn : RA w g 0 []) :
    Calls Tryz.prog 23 #[.slice (some ⟨g, 0, none⟩) 0 cap, .string s] w fun e w' => RowsR w (stepO [] (stepW W)) e w' := by
  have HC : Hid (∀ wx, Calls Tryz.prog 22 #[.string s, .int .u8 32] wx fun e w' => Below wx.heap.size wx w' ∧ ∃ g cap, e = .returned (.slice (some ⟨g, 0, none⟩) W.length cap) ∧ g < w'.heap.size ∧ w'.ownsRow wx.heap.size 9 1 (.slice (some ⟨g, 0, none⟩) W.length cap) W.length (strsV W)) := fun wx => by
    have := cut_any s 32 wx (by omega)
    rw [hW] at this
    exact this
  have HN := hide hn
  have hgl := hn.lt
  clear hn hW
  go_enter Tryz.func23, Tryz.ntmps23
  go_wp2_with fail
  refine (unhide HC _).mono ?_
  rintro e w1 ⟨hB1, gw, capw, rfl, hgw, how⟩
  have hsz1 := hB1.size
  have HB1 := hide hB1
  have HN1 := hide ((unhide HN).below hB1 hgl)
  have HCELL : Hid (∀ i x, W[i]? = some x → w1.cell? ⟨gw, i, none⟩ = some (.string (mk x))) := fun i x hx => by
    have hi : i < W.length := by
      rcases Nat.lt_or_ge i W.length with h | h
      · exact h
      · rw [List.getElem?_eq_none h] at hx; cases hx
    rw [how.cellAt i (by omega)]
    simp [strsV, hx]
  clear hB1 how HC HN
  have HR : Hid (stepO [] (stepW W) = none) := by show _ = _; rw [hno]; rfl
  have c0 := unhide HCELL 0 x0 h0
  have c1 := unhide HCELL 1 x1 h1
  have HCT : Hid (∀ wx, Calls Tryz.prog 43 #[.string (mk x1)] wx fun e w' => e = .returned (.int .i64 (cntR (numV x1))) ∧ w' = wx) := fun wx => refCount_any (mk x1) wx (by rw [mk_size]; omega)
  have hcb := cntR_bd x1
  generalize cntR (numV x1) = c at *
  generalize mk x1 = y1 at *
  have he : ((mk x0).toList == [105]) = false := by rw [mk_eq]; simp [hx0]
  generalize mk x0 = y0 at *
  rw [hk]
  clear HCELL hno
  go_wp2_with fail
  refine (unhide HCT _).mono ?_
  rintro e w1 ⟨rfl, hw⟩; have hw := hw.symm; subst hw
  go_wp2_with (first | (at_builtin; refine append_nil0 rfl _ _ rfl g cap rfl rfl (unhide HN1).lt ?_) | fail)
  intro w2 hg2
  have HB2 : Hid (Below w.heap.size w w2) := (unhide HB1).grown hg2 (unhide HB1).size (fun k hk => by cases hk)
  have hsz2 := hg2.size
  have HCL2 : Hid (∀ i, w2.cell? ⟨gw, i, none⟩ = w1.cell? ⟨gw, i, none⟩) := fun i => World.cell?_of_block (hg2.block gw hgw (by simp))
  clear hg2 HN1
  have d0 := (unhide HCL2 0).trans c0
  go_wp2_with fail
  go_ret2
  rw [unhide HR]
  exact ⟨unhide HB2, rfl⟩
set_option maxHeartbeats 3200000 in
theorem stepNoxNil (s : ByteArray) (W : List (List UInt8)) (g cap : Nat) (w : World) (hs : s.size ≤ 10000) (hW : splitL 32 s.data.toList = W) (hk : 1 < W.length) (n2 : ((W.length : Int) == 2) = false) (n3 : ((W.length : Int) == 3) = false) (n5 : ((W.length : Int) == 5) = false) (hno : stepW W = none) (x1 : List UInt8) (h1 : W[1]? = some x1) (hz1 : x1.length ≤ 10000) (hn : RA w g 0 []) :
    Calls Tryz.prog 23 #[.slice (some ⟨g, 0, none⟩) 0 cap, .string s] w fun e w' => RowsR w (stepO [] (stepW W)) e w' := by
  have HC : Hid (∀ wx, Calls Tryz.prog 22 #[.string s, .int .u8 32] wx fun e w' => Below wx.heap.size wx w' ∧ ∃ g cap, e = .returned (.slice (some ⟨g, 0, none⟩) W.length cap) ∧ g < w'.heap.size ∧ w'.ownsRow wx.heap.size 9 1 (.slice (some ⟨g, 0, none⟩) W.length cap) W.length (strsV W)) := fun wx => by
    have := cut_any s 32 wx (by omega)
    rw [hW] at this
    exact this
  have HN := hide hn
  have hgl := hn.lt
  clear hn hW
  go_enter Tryz.func23, Tryz.ntmps23
  go_wp2_with fail
  refine (unhide HC _).mono ?_
  rintro e w1 ⟨hB1, gw, capw, rfl, hgw, how⟩
  have hsz1 := hB1.size
  have HB1 := hide hB1
  have HN1 := hide ((unhide HN).below hB1 hgl)
  have HCELL : Hid (∀ i x, W[i]? = some x → w1.cell? ⟨gw, i, none⟩ = some (.string (mk x))) := fun i x hx => by
    have hi : i < W.length := by
      rcases Nat.lt_or_ge i W.length with h | h
      · exact h
      · rw [List.getElem?_eq_none h] at hx; cases hx
    rw [how.cellAt i (by omega)]
    simp [strsV, hx]
  clear hB1 how HC HN
  have HR : Hid (stepO [] (stepW W) = none) := by show _ = _; rw [hno]; rfl
  have c1 := unhide HCELL 1 x1 h1
  have HCT : Hid (∀ wx, Calls Tryz.prog 43 #[.string (mk x1)] wx fun e w' => e = .returned (.int .i64 (cntR (numV x1))) ∧ w' = wx) := fun wx => refCount_any (mk x1) wx (by rw [mk_size]; omega)
  have hcb := cntR_bd x1
  generalize cntR (numV x1) = c at *
  generalize mk x1 = y1 at *
  have hk1 : (1 : Int) < (W.length : Int) := by omega
  generalize W.length = wl at *
  clear HCELL hno
  go_wp2_with fail
  refine (unhide HCT _).mono ?_
  rintro e w1 ⟨rfl, hw⟩; have hw := hw.symm; subst hw
  go_wp2_with (first | (at_builtin; refine append_nil0 rfl _ _ rfl g cap rfl rfl (unhide HN1).lt ?_) | fail)
  intro w2 hg2
  have HB2 : Hid (Below w.heap.size w w2) := (unhide HB1).grown hg2 (unhide HB1).size (fun k hk => by cases hk)
  have hsz2 := hg2.size
  have HCL2 : Hid (∀ i, w2.cell? ⟨gw, i, none⟩ = w1.cell? ⟨gw, i, none⟩) := fun i => World.cell?_of_block (hg2.block gw hgw (by simp))
  clear hg2 HN1
  go_wp2_with fail
  go_ret2
  rw [unhide HR]
  exact ⟨unhide HB2, rfl⟩

end Go.Proofs.YtdaneedflpfeaaaGreatDoor
