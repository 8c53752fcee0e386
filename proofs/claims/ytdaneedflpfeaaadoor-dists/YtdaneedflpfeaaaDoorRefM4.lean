import Derived.Test.YtdaneedflpfeaaaDoorRefAcc3
namespace Go.Proofs.YtdaneedflpfeaaaDoor
set_option maxRecDepth 100000
open Go.RowKit

set_option maxHeartbeats 3200000 in
theorem rsingle_step {b : Nat} {lv : Value} {rt : List RTok} {toks : List Tok} {n : Nat} (R : Rel rt toks) (ih : ∀ m, m ≤ n → RIH b lv rt toks m) {w : World} {st st' : RSt} {r : List Rw} (hP : RS b lv rt w st) (h : Rg toks (n + 1) .single st = some (r, st')) : RDoes 96 b lv rt w r st' := by
  have HR := hide R
  have IHH := hide ih
  have H0 := hide (Acc.start hP)
  clear R ih hP
  rcases RI_ite (show RI toks (Rg toks n) (.ite .sign (.call .neg) (.ite (.is [40]) (.call .group) (.ite (.is [110, 97, 109, 101]) (.call .nameOrCall) (.need kNumber)))) st = some (r, st') from h) with ⟨hc1, h1⟩ | ⟨hc1, h1⟩
  · cases n with
    | zero => cases h1
    | succ n1 =>
    obtain ⟨F, h2, hf, rfl⟩ := RI_node (show RI toks (Rg toks n1) (.node ⟨#[110, 101, 103]⟩ (.seq .take (.call .single))) st = some (r, st') from h1)
    obtain ⟨l1, s1, l2, h3, h4, rfl⟩ := RI_seq h2
    have X1 := hide h3
    have X2 : Hid (Rg toks n1 .single s1 = some (l2, st')) := h4
    have XF := hide hf
    have hL := fine_len hf
    simp only [List.length_append] at hL
    clear h h1 h2 h3 h4 hf
    unfold RDoes
    go_enter Tryd.func96, Tryd.ntmps96
    go_wp2_with fail
    refine (is_acc (unhide H0) signW true (by decide) ((is_sign (unhide HR) (unhide H0).rs.att).trans hc1)).mono ?_
    rintro e w1 ⟨rfl, a1⟩
    have H1 := hide a1
    clear a1
    go_wp2_with fail
    refine (take_ri (unhide HR) (unhide H1) signW (by decide) (by decide) ((is_sign (unhide HR) (unhide H1).rs.att).trans hc1) (unhide X1)).mono ?_
    rintro e w2 ⟨u2, rfl, a2, k2, b2⟩
    have H2 := hide (a2.take k2)
    clear a2 k2
    go_wp2_with fail
    refine Calls.mono (call_acc (unhide IHH n1 (by omega)) (unhide H2) .single rfl (unhide X2)) ?_
    rintro e w3 ⟨u3, rfl, a3, k3⟩
    have H3 := hide a3
    have K3 := hide k3
    clear a3 k3
    go_wp2_with (first | (at_builtin; refine append_acc (unhide H3) (unhide K3) _ _ rfl rfl rfl rfl (by (try simp only [List.length_append]); omega) ?_) | fail)
    intro v4 w4 a4
    have H4 := hide a4
    clear a4
    go_wp2_with fail
    refine (node_acc (unhide H4) (unhide H4).own ⟨#[110, 101, 103]⟩ (by simpa only [List.append_assoc] using unhide XF)).mono ?_
    rintro e w5 ⟨u5, rfl, a5, k5⟩
    have H5 := hide (a5.take k5)
    clear a5 k5
    go_wp2_with fail
    go_ret
    exact ⟨_, rfl, (unhide H5).cast (by first | rfl | simp)⟩
  · rcases RI_ite h1 with ⟨hc2, h2⟩ | ⟨hc2, h2⟩
    · cases n with
      | zero => cases h2
      | succ n1 =>
      obtain ⟨F, h3, hf, rfl⟩ := RI_node (show RI toks (Rg toks n1) (.node ⟨#[103, 114, 111, 117, 112]⟩ (.seq (.need ⟨#[40]⟩) (.seq (.call .value) (.need ⟨#[41]⟩)))) st = some (r, st') from h2)
      obtain ⟨l1, s1, r1, h4, h5, rfl⟩ := RI_seq h3
      obtain ⟨l2, s2, l3, h6, h7, rfl⟩ := RI_seq h5
      have X1 := hide h4
      have X2 : Hid (Rg toks n1 .value s1 = some (l2, s2)) := h6
      have X3 := hide h7
      have XF := hide hf
      have hL := fine_len hf
      simp only [List.length_append] at hL
      clear h h1 h2 h3 h4 h5 h6 h7 hf
      unfold RDoes
      go_enter Tryd.func96, Tryd.ntmps96
      go_wp2_with fail
      refine (is_acc (unhide H0) signW false (by decide) ((is_sign (unhide HR) (unhide H0).rs.att).trans hc1)).mono ?_
      rintro e w6 ⟨rfl, a6⟩
      have H6 := hide a6
      clear a6
      go_wp2_with fail
      refine (is_acc (unhide H6) [⟨#[40]⟩] true (by decide) ((is_one (unhide HR) (unhide H6).rs.att _ (by decide)).trans hc2)).mono ?_
      rintro e w7 ⟨rfl, a7⟩
      have H7 := hide a7
      clear a7
      go_wp2_with fail
      refine (need_ri (unhide HR) (unhide H7) [⟨#[40]⟩] ⟨#[40]⟩ (by decide) (by decide) (by decide) (is_one (unhide HR) (unhide H7).rs.att _ (by decide)) (unhide X1)).mono ?_
      rintro e w8 ⟨u8, rfl, a8, k8⟩
      have H8 := hide (a8.take k8)
      clear a8 k8
      go_wp2_with fail
      refine Calls.mono (call_acc (unhide IHH n1 (by omega)) (unhide H8) .value rfl (unhide X2)) ?_
      rintro e w9 ⟨u9, rfl, a9, k9⟩
      have H9 := hide a9
      have K9 := hide k9
      clear a9 k9
      go_wp2_with (first | (at_builtin; refine append_acc (unhide H9) (unhide K9) _ _ rfl rfl rfl rfl (by (try simp only [List.length_append]); omega) ?_) | fail)
      intro v10 w10 a10
      have H10 := hide a10
      clear a10
      go_wp2_with fail
      refine (need_ri (unhide HR) (unhide H10) [⟨#[41]⟩] ⟨#[41]⟩ (by decide) (by decide) (by decide) (is_one (unhide HR) (unhide H10).rs.att _ (by decide)) (unhide X3)).mono ?_
      rintro e w11 ⟨u11, rfl, a11, k11⟩
      have H11 := hide a11
      have K11 := hide k11
      clear a11 k11
      go_wp2_with (first | (at_builtin; refine append_acc (unhide H11) (unhide K11) _ _ rfl rfl rfl rfl (by (try simp only [List.length_append]); omega) ?_) | fail)
      intro v12 w12 a12
      have H12 := hide a12
      clear a12
      go_wp2_with fail
      refine (node_acc (unhide H12) (unhide H12).own ⟨#[103, 114, 111, 117, 112]⟩ (by simpa only [List.append_assoc] using unhide XF)).mono ?_
      rintro e w13 ⟨u13, rfl, a13, k13⟩
      have H13 := hide (a13.take k13)
      clear a13 k13
      go_wp2_with fail
      go_ret
      exact ⟨_, rfl, (unhide H13).cast (by first | rfl | simp)⟩
    · rcases RI_ite h2 with ⟨hc3, h3⟩ | ⟨hc3, h3⟩
      · cases n with
        | zero => cases h3
        | succ n1 =>
        obtain ⟨l1, s1, h4, hcc⟩ := RI_wrap (show RI toks (Rg toks n1) (.wrap ⟨#[99, 97, 108, 108]⟩ (.need kName) (.is [40]) (.seq .take (.seq (.ite (.is [41]) .skip (.call .values)) (.need ⟨#[41]⟩)))) st = some (r, st') from h3)
        have X1 := hide h4
        clear h h1 h2 h3 h4
        unfold RDoes
        go_enter Tryd.func96, Tryd.ntmps96
        go_wp2_with fail
        refine (is_acc (unhide H0) signW false (by decide) ((is_sign (unhide HR) (unhide H0).rs.att).trans hc1)).mono ?_
        rintro e w14 ⟨rfl, a14⟩
        have H14 := hide a14
        clear a14
        go_wp2_with fail
        refine (is_acc (unhide H14) [⟨#[40]⟩] false (by decide) ((is_one (unhide HR) (unhide H14).rs.att _ (by decide)).trans hc2)).mono ?_
        rintro e w15 ⟨rfl, a15⟩
        have H15 := hide a15
        clear a15
        go_wp2_with fail
        refine (is_acc (unhide H15) [kName] true (by decide) ((is_one (unhide HR) (unhide H15).rs.att _ (by decide)).trans hc3)).mono ?_
        rintro e w16 ⟨rfl, a16⟩
        have H16 := hide a16
        clear a16
        go_wp2_with fail
        refine (need_ri (unhide HR) (unhide H16) [kName] kName (by decide) (by decide) (by decide) (is_one (unhide HR) (unhide H16).rs.att _ (by decide)) (unhide X1)).mono ?_
        rintro e w17 ⟨u17, rfl, a17, k17⟩
        have H17 := hide (a17.take k17)
        clear a17 k17
        rcases hcc with ⟨hc, m, h5, hf, rfl⟩ | ⟨hc, rfl, rfl⟩
        · obtain ⟨l2, s2, r2, h6, h7, rfl⟩ := RI_seq h5
          obtain ⟨l3, s4, l4, h8, h9, rfl⟩ := RI_seq h7
          have X2 := hide h6
          have X3 := hide h8
          have X5 := hide h9
          have XF := hide hf
          have hL := fine_len hf
          simp only [List.length_append] at hL
          clear h5 h6 h7 h8 h9 hf
          go_wp2_with fail
          refine (is_acc (unhide H17) [⟨#[40]⟩] true (by decide) ((is_one (unhide HR) (unhide H17).rs.att _ (by decide)).trans hc)).mono ?_
          rintro e w18 ⟨rfl, a18⟩
          have H18 := hide a18
          clear a18
          go_wp2_with fail
          refine (take_ri (unhide HR) (unhide H18) [⟨#[40]⟩] (by decide) (by decide) ((is_one (unhide HR) (unhide H18).rs.att _ (by decide)).trans hc) (unhide X2)).mono ?_
          rintro e w19 ⟨u19, rfl, a19, k19, b19⟩
          have H19 := hide a19
          have K19 := hide k19
          clear a19 k19
          go_wp2_with (first | (at_builtin; refine append_acc (unhide H19) (unhide K19) _ _ rfl rfl rfl rfl (by (try simp only [List.length_append]); omega) ?_) | fail)
          intro v20 w20 a20
          have H20 := hide a20
          clear a20
          go_wp2_with fail
          go_loopg [5, 6] n1 (fun g x fst wr => ∃ sk lk rk, g ≤ n1 ∧ Acc w b lv rt wr sk x lk ∧ Hid (lk ++ rk = l1 ++ (l2 ++ l3)) ∧ ((fst = .bool true ∧ g = n1 ∧ sk.bad < 0 ∧ Hid (RI toks (Rg toks g) (.ite (.is [41]) .skip (.call .values)) sk = some (rk, s4))) ∨ (fst = .bool false ∧ sk.bad < 0 ∧ ∃ ra sa rb, Hid (Rg toks g .value sk = some (ra, sa)) ∧ Hid (Rg toks g .valuesL sa = some (rb, s4)) ∧ rk = ra ++ rb)))
          case atStart => exact ⟨s2, l1 ++ l2, l3, Nat.le_refl _, unhide H20, by show _ = _; simp only [List.append_assoc], .inl ⟨rfl, rfl, b19, unhide X3⟩⟩
          case round =>
            obtain ⟨sk, lk, rk, hg, hA, XQ, hcase⟩ := hrel
            have HA := hide hA
            obtain ⟨_, _, c2, _⟩ := hA.rs.cells
            clear hA
            rcases hcase with ⟨rfl, hF⟩ | ⟨rfl, hb, ra, sa, rb, z1, z2, rfl⟩
            · skip
              obtain ⟨hgn, hb, hF⟩ := hF
              have hbb : decide (sk.bad < 0) = true := by simp [hb]
              rcases RI_ite (unhide hF) with ⟨hcf, hE⟩ | ⟨hcf, hE⟩
              · obtain ⟨rfl, rfl⟩ := RI_skip hE
                have hqq : lk = l1 ++ (l2 ++ l3) := by rw [← unhide XQ, List.append_nil]
                subst hqq
                clear hE XQ hF
                go_wp2_with fail
                refine (is_acc (unhide HA) [⟨#[41]⟩] true (by decide) ((is_one (unhide HR) (unhide HA).rs.att _ (by decide)).trans hcf)).mono ?_
                rintro e w21 ⟨rfl, a21⟩
                have H21 := hide a21
                clear a21
                go_wp2_with fail
                refine (need_ri (unhide HR) (unhide H21) [⟨#[41]⟩] ⟨#[41]⟩ (by decide) (by decide) (by decide) (is_one (unhide HR) (unhide H21).rs.att _ (by decide)) (unhide X5)).mono ?_
                rintro e w22 ⟨u22, rfl, a22, k22⟩
                have H22 := hide a22
                have K22 := hide k22
                clear a22 k22
                go_wp2_with (first | (at_builtin; refine append_acc (unhide H22) (unhide K22) _ _ rfl rfl rfl rfl (by (try simp only [List.length_append]); omega) ?_) | fail)
                intro v23 w23 a23
                have H23 := hide a23
                clear a23
                go_wp2_with fail
                refine (node_acc (unhide H23) (unhide H23).own ⟨#[99, 97, 108, 108]⟩ (by simpa only [List.append_assoc] using unhide XF)).mono ?_
                rintro e w24 ⟨u24, rfl, a24, k24⟩
                have H24 := hide (a24.take k24)
                clear a24 k24
                go_wp2_with fail
                go_ret
                exact ⟨_, rfl, (unhide H24).cast (by first | rfl | simp)⟩
              · cases gk with
                | zero => cases hE
                | succ g0 =>
                obtain ⟨ra, sa, rb, z1, z2, rfl⟩ := RI_seq (show RI toks (Rg toks g0) (.seq (.call .value) (.call .valuesL)) sk = some (rk, s4) from hE)
                have Z1 : Hid (Rg toks g0 .value sk = some (ra, sa)) := z1
                have Z2 : Hid (Rg toks g0 .valuesL sa = some (rb, s4)) := z2
                clear z1 z2 hE hF
                go_wp2_with fail
                refine (is_acc (unhide HA) [⟨#[41]⟩] false (by decide) ((is_one (unhide HR) (unhide HA).rs.att _ (by decide)).trans hcf)).mono ?_
                rintro e w25 ⟨rfl, a25⟩
                have H25 := hide a25
                clear a25
                cases g0 with
                | zero => cases (unhide Z1)
                | succ g =>
                rcases RI_ite (show RI toks (Rg toks g) (.ite (.is [44]) (.seq .take (.seq (.call .value) (.call .valuesL))) .skip) sa = some (rb, s4) from unhide Z2) with ⟨hck, hE⟩ | ⟨hck, hE⟩
                · obtain ⟨a1, q1, b1, e1, e2, rfl⟩ := RI_seq hE
                  obtain ⟨a2, q2, b2, e3, e4, rfl⟩ := RI_seq e2
                  have Y1 := hide e1
                  have Y2 : Hid (Rg toks g .value q1 = some (a2, q2)) := e3
                  have Y3 : Hid (Rg toks g .valuesL q2 = some (b2, s4)) := e4
                  have hlen := congrArg List.length (unhide XQ)
                  simp only [List.length_append] at hlen
                  clear hE e1 e2 e3 e4 Z2
                  go_wp2_with fail
                  refine Calls.mono (call_acc (unhide IHH (g + 1) (by omega)) (unhide H25) .value rfl (unhide Z1)) ?_
                  rintro e w26 ⟨u26, rfl, a26, k26⟩
                  have H26 := hide a26
                  have K26 := hide k26
                  clear a26 k26
                  go_wp2_with (first | (at_builtin; refine append_acc (unhide H26) (unhide K26) _ _ rfl rfl rfl rfl (by (try simp only [List.length_append]); omega) ?_) | fail)
                  intro v27 w27 a27
                  have H27 := hide a27
                  clear a27
                  go_wp2_with fail
                  refine (is_acc (unhide H27) [⟨#[44]⟩] true (by decide) ((is_one (unhide HR) (unhide H27).rs.att _ (by decide)).trans hck)).mono ?_
                  rintro e w28 ⟨rfl, a28⟩
                  have H28 := hide a28
                  clear a28
                  go_wp2_with fail
                  refine (take_ri (unhide HR) (unhide H28) [⟨#[44]⟩] (by decide) (by decide) ((is_one (unhide HR) (unhide H28).rs.att _ (by decide)).trans hck) (unhide Y1)).mono ?_
                  rintro e w29 ⟨u29, rfl, a29, k29, b29⟩
                  have H29 := hide a29
                  have K29 := hide k29
                  clear a29 k29
                  go_wp2_with (first | (at_builtin; refine append_acc (unhide H29) (unhide K29) _ _ rfl rfl rfl rfl (by (try simp only [List.length_append]); omega) ?_) | fail)
                  intro v30 w30 a30
                  have H30 := hide a30
                  clear a30
                  go_wp2_with fail
                  go_roundg g
                  case measure => omega
                  case rel => exact ⟨q1, _, a2 ++ b2, by omega, unhide H30, by show _ = _; rw [← unhide XQ]; simp only [List.append_assoc], .inr ⟨rfl, b29, a2, q2, b2, unhide Y2, unhide Y3, rfl⟩⟩
                · obtain ⟨rfl, rfl⟩ := RI_skip hE
                  have hqq : lk ++ ra = l1 ++ (l2 ++ l3) := by rw [← unhide XQ, List.append_nil]
                  have hlen := congrArg List.length hqq
                  simp only [List.length_append] at hlen
                  clear hE Z2 XQ
                  go_wp2_with fail
                  refine Calls.mono (call_acc (unhide IHH (g + 1) (by omega)) (unhide H25) .value rfl (unhide Z1)) ?_
                  rintro e w31 ⟨u31, rfl, a31, k31⟩
                  have H31 := hide a31
                  have K31 := hide k31
                  clear a31 k31
                  go_wp2_with (first | (at_builtin; refine append_acc (unhide H31) (unhide K31) _ _ rfl rfl rfl rfl (by (try simp only [List.length_append]); omega) ?_) | fail)
                  intro v32 w32 a32
                  have H32 := hide a32
                  clear a32
                  go_wp2_with fail
                  refine (is_acc (unhide H32) [⟨#[44]⟩] false (by decide) ((is_one (unhide HR) (unhide H32).rs.att _ (by decide)).trans hck)).mono ?_
                  rintro e w33 ⟨rfl, a33⟩
                  have H33 := hide a33
                  clear a33
                  try rw [hqq] at H33
                  go_wp2_with fail
                  refine (need_ri (unhide HR) (unhide H33) [⟨#[41]⟩] ⟨#[41]⟩ (by decide) (by decide) (by decide) (is_one (unhide HR) (unhide H33).rs.att _ (by decide)) (unhide X5)).mono ?_
                  rintro e w34 ⟨u34, rfl, a34, k34⟩
                  have H34 := hide a34
                  have K34 := hide k34
                  clear a34 k34
                  go_wp2_with (first | (at_builtin; refine append_acc (unhide H34) (unhide K34) _ _ rfl rfl rfl rfl (by (try simp only [List.length_append]); omega) ?_) | fail)
                  intro v35 w35 a35
                  have H35 := hide a35
                  clear a35
                  go_wp2_with fail
                  refine (node_acc (unhide H35) (unhide H35).own ⟨#[99, 97, 108, 108]⟩ (by simpa only [List.append_assoc] using unhide XF)).mono ?_
                  rintro e w36 ⟨u36, rfl, a36, k36⟩
                  have H36 := hide (a36.take k36)
                  clear a36 k36
                  go_wp2_with fail
                  go_ret
                  exact ⟨_, rfl, (unhide H36).cast (by first | rfl | simp)⟩
            · have hbb : decide (sk.bad < 0) = true := by simp [hb]
              have Z1 := hide (unhide z1)
              have Z2 := hide (unhide z2)
              clear z1 z2
              cases gk with
              | zero => cases (unhide Z1)
              | succ g =>
              rcases RI_ite (show RI toks (Rg toks g) (.ite (.is [44]) (.seq .take (.seq (.call .value) (.call .valuesL))) .skip) sa = some (rb, s4) from unhide Z2) with ⟨hck, hE⟩ | ⟨hck, hE⟩
              · obtain ⟨a1, q1, b1, e1, e2, rfl⟩ := RI_seq hE
                obtain ⟨a2, q2, b2, e3, e4, rfl⟩ := RI_seq e2
                have Y1 := hide e1
                have Y2 : Hid (Rg toks g .value q1 = some (a2, q2)) := e3
                have Y3 : Hid (Rg toks g .valuesL q2 = some (b2, s4)) := e4
                have hlen := congrArg List.length (unhide XQ)
                simp only [List.length_append] at hlen
                clear hE e1 e2 e3 e4 Z2
                go_wp2_with fail
                refine Calls.mono (call_acc (unhide IHH (g + 1) (by omega)) (unhide HA) .value rfl (unhide Z1)) ?_
                rintro e w37 ⟨u37, rfl, a37, k37⟩
                have H37 := hide a37
                have K37 := hide k37
                clear a37 k37
                go_wp2_with (first | (at_builtin; refine append_acc (unhide H37) (unhide K37) _ _ rfl rfl rfl rfl (by (try simp only [List.length_append]); omega) ?_) | fail)
                intro v38 w38 a38
                have H38 := hide a38
                clear a38
                go_wp2_with fail
                refine (is_acc (unhide H38) [⟨#[44]⟩] true (by decide) ((is_one (unhide HR) (unhide H38).rs.att _ (by decide)).trans hck)).mono ?_
                rintro e w39 ⟨rfl, a39⟩
                have H39 := hide a39
                clear a39
                go_wp2_with fail
                refine (take_ri (unhide HR) (unhide H39) [⟨#[44]⟩] (by decide) (by decide) ((is_one (unhide HR) (unhide H39).rs.att _ (by decide)).trans hck) (unhide Y1)).mono ?_
                rintro e w40 ⟨u40, rfl, a40, k40, b40⟩
                have H40 := hide a40
                have K40 := hide k40
                clear a40 k40
                go_wp2_with (first | (at_builtin; refine append_acc (unhide H40) (unhide K40) _ _ rfl rfl rfl rfl (by (try simp only [List.length_append]); omega) ?_) | fail)
                intro v41 w41 a41
                have H41 := hide a41
                clear a41
                go_wp2_with fail
                go_roundg g
                case measure => omega
                case rel => exact ⟨q1, _, a2 ++ b2, by omega, unhide H41, by show _ = _; rw [← unhide XQ]; simp only [List.append_assoc], .inr ⟨rfl, b40, a2, q2, b2, unhide Y2, unhide Y3, rfl⟩⟩
              · obtain ⟨rfl, rfl⟩ := RI_skip hE
                have hqq : lk ++ ra = l1 ++ (l2 ++ l3) := by rw [← unhide XQ, List.append_nil]
                have hlen := congrArg List.length hqq
                simp only [List.length_append] at hlen
                clear hE Z2 XQ
                go_wp2_with fail
                refine Calls.mono (call_acc (unhide IHH (g + 1) (by omega)) (unhide HA) .value rfl (unhide Z1)) ?_
                rintro e w42 ⟨u42, rfl, a42, k42⟩
                have H42 := hide a42
                have K42 := hide k42
                clear a42 k42
                go_wp2_with (first | (at_builtin; refine append_acc (unhide H42) (unhide K42) _ _ rfl rfl rfl rfl (by (try simp only [List.length_append]); omega) ?_) | fail)
                intro v43 w43 a43
                have H43 := hide a43
                clear a43
                go_wp2_with fail
                refine (is_acc (unhide H43) [⟨#[44]⟩] false (by decide) ((is_one (unhide HR) (unhide H43).rs.att _ (by decide)).trans hck)).mono ?_
                rintro e w44 ⟨rfl, a44⟩
                have H44 := hide a44
                clear a44
                try rw [hqq] at H44
                go_wp2_with fail
                refine (need_ri (unhide HR) (unhide H44) [⟨#[41]⟩] ⟨#[41]⟩ (by decide) (by decide) (by decide) (is_one (unhide HR) (unhide H44).rs.att _ (by decide)) (unhide X5)).mono ?_
                rintro e w45 ⟨u45, rfl, a45, k45⟩
                have H45 := hide a45
                have K45 := hide k45
                clear a45 k45
                go_wp2_with (first | (at_builtin; refine append_acc (unhide H45) (unhide K45) _ _ rfl rfl rfl rfl (by (try simp only [List.length_append]); omega) ?_) | fail)
                intro v46 w46 a46
                have H46 := hide a46
                clear a46
                go_wp2_with fail
                refine (node_acc (unhide H46) (unhide H46).own ⟨#[99, 97, 108, 108]⟩ (by simpa only [List.append_assoc] using unhide XF)).mono ?_
                rintro e w47 ⟨u47, rfl, a47, k47⟩
                have H47 := hide (a47.take k47)
                clear a47 k47
                go_wp2_with fail
                go_ret
                exact ⟨_, rfl, (unhide H47).cast (by first | rfl | simp)⟩
        · skip
          go_wp2_with fail
          refine (is_acc (unhide H17) [⟨#[40]⟩] false (by decide) ((is_one (unhide HR) (unhide H17).rs.att _ (by decide)).trans hc)).mono ?_
          rintro e w48 ⟨rfl, a48⟩
          have H48 := hide a48
          clear a48
          go_wp2_with fail
          go_ret
          exact ⟨_, rfl, (unhide H48).cast (by first | rfl | simp)⟩
      · have X1 := hide h3
        clear h h1 h2 h3
        unfold RDoes
        go_enter Tryd.func96, Tryd.ntmps96
        go_wp2_with fail
        refine (is_acc (unhide H0) signW false (by decide) ((is_sign (unhide HR) (unhide H0).rs.att).trans hc1)).mono ?_
        rintro e w49 ⟨rfl, a49⟩
        have H49 := hide a49
        clear a49
        go_wp2_with fail
        refine (is_acc (unhide H49) [⟨#[40]⟩] false (by decide) ((is_one (unhide HR) (unhide H49).rs.att _ (by decide)).trans hc2)).mono ?_
        rintro e w50 ⟨rfl, a50⟩
        have H50 := hide a50
        clear a50
        go_wp2_with fail
        refine (is_acc (unhide H50) [kName] false (by decide) ((is_one (unhide HR) (unhide H50).rs.att _ (by decide)).trans hc3)).mono ?_
        rintro e w51 ⟨rfl, a51⟩
        have H51 := hide a51
        clear a51
        go_wp2_with fail
        refine (need_ri (unhide HR) (unhide H51) [kNumber] kNumber (by decide) (by decide) (by decide) (is_one (unhide HR) (unhide H51).rs.att _ (by decide)) (unhide X1)).mono ?_
        rintro e w52 ⟨u52, rfl, a52, k52⟩
        have H52 := hide (a52.take k52)
        clear a52 k52
        go_wp2_with fail
        go_ret
        exact ⟨_, rfl, (unhide H52).cast (by first | rfl | simp)⟩

end Go.Proofs.YtdaneedflpfeaaaDoor
