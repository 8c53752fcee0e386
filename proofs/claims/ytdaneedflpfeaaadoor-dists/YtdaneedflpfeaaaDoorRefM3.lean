import Derived.Test.YtdaneedflpfeaaaDoorRefAcc3
namespace Go.Proofs.YtdaneedflpfeaaaDoor
set_option maxRecDepth 100000
open Go.RowKit

set_option maxHeartbeats 3200000 in
theorem rblock_step {b : Nat} {lv : Value} {rt : List RTok} {toks : List Tok} {n : Nat} (R : Rel rt toks) (ih : ∀ m, m ≤ n → RIH b lv rt toks m) {w : World} {st st' : RSt} {r : List Rw} (hP : RS b lv rt w st) (h : Rg toks (n + 1) .block st = some (r, st')) : RDoes 35 b lv rt w r st' := by
  have HR := hide R
  have IHH := hide ih
  have H0 := hide (Acc.start hP)
  clear R ih hP
  obtain ⟨F, h1, hf, rfl⟩ := RI_node (show RI toks (Rg toks n) (.node ⟨#[98, 108, 111, 99, 107]⟩ (.seq (.need ⟨#[123]⟩) (.seq (.call .stmts) (.need ⟨#[125]⟩)))) st = some (r, st') from h)
  obtain ⟨l1, s1, r1, h2, h3, rfl⟩ := RI_seq h1
  obtain ⟨l2, s2, r2, h4, h5, rfl⟩ := RI_seq h3
  have X2 := hide h2
  have X4 : Hid (Rg toks n .stmts s1 = some (l2, s2)) := h4
  have X5 := hide h5
  have XF := hide hf
  have hL := fine_len hf
  simp only [List.length_append] at hL
  clear h h1 h2 h3 h4 h5 hf
  unfold RDoes
  go_enter Tryd.func35, Tryd.ntmps35
  go_wp2_with fail
  refine (need_ri (unhide HR) (unhide H0) [⟨#[123]⟩] ⟨#[123]⟩ (by decide) (by decide) (by decide) (is_one (unhide HR) (unhide H0).rs.att _ (by decide)) (unhide X2)).mono ?_
  rintro e w1 ⟨u1, rfl, a1, k1⟩
  have H1 := hide (a1.take k1)
  clear a1 k1
  go_wp2_with fail
  go_loopg [3] n (fun g x wr => ∃ sk lk rk, g ≤ n ∧ Acc w b lv rt wr sk x lk ∧ Hid (Rg toks g .stmts sk = some (rk, s2)) ∧ Hid (lk ++ rk = l1 ++ l2))
  case atStart => exact ⟨s1, l1, l2, Nat.le_refl _, unhide H1, unhide X4, rfl⟩
  case round =>
    obtain ⟨sk, lk, rk, hg, hA, XE, XQ⟩ := hrel
    have HA := hide hA
    obtain ⟨_, _, c2, _⟩ := hA.rs.cells
    clear hA
    cases gk with
    | zero => cases (unhide XE)
    | succ g =>
    rcases RI_ite (show RI toks (Rg toks g) (.ite (.go [125]) (.seq (.call .statement) (.call .stmts)) .skip) sk = some (rk, s2) from unhide XE) with ⟨hck, hE⟩ | ⟨hck, hE⟩
    · obtain ⟨hb, hq⟩ := go_yes hck
      have hbb : decide (sk.bad < 0) = true := by simp [hb]
      obtain ⟨a1, q1, b1, e1, e2, rfl⟩ := RI_seq hE
      have Y1 : Hid (Rg toks g .statement sk = some (a1, q1)) := e1
      have Y2 : Hid (Rg toks g .stmts q1 = some (b1, s2)) := e2
      have hlen := congrArg List.length (unhide XQ)
      simp only [List.length_append] at hlen
      clear hE e1 e2 XE
      go_wp2_with fail
      refine (is_acc (unhide HA) [⟨#[125]⟩] false (by decide) ((is_one (unhide HR) (unhide HA).rs.att _ (by decide)).trans hq)).mono ?_
      rintro e w2 ⟨rfl, a2⟩
      have H2 := hide a2
      clear a2
      go_wp2_with fail
      refine Calls.mono (call_acc (unhide IHH g (by omega)) (unhide H2) .statement rfl (unhide Y1)) ?_
      rintro e w3 ⟨u3, rfl, a3, k3⟩
      have H3 := hide a3
      have K3 := hide k3
      clear a3 k3
      go_wp2_with (first | (at_builtin; refine append_acc (unhide H3) (unhide K3) _ _ rfl rfl rfl rfl (by (try simp only [List.length_append]); omega) ?_) | fail)
      intro v4 w4 a4
      have H4 := hide a4
      clear a4
      go_wp2_with fail
      go_roundg g
      case measure => exact Nat.lt_succ_self g
      case rel => exact ⟨q1, _, b1, by omega, unhide H4, unhide Y2, by show _ = _; rw [← unhide XQ]; simp only [List.append_assoc]⟩
    · obtain ⟨rfl, rfl⟩ := RI_skip hE
      have hq : lk = l1 ++ l2 := by rw [← unhide XQ, List.append_nil]
      subst hq
      clear hE XE XQ
      rcases go_no hck with hb | ⟨hb, hq⟩
      · have hbb : decide (s2.bad < 0) = false := by simp [hb]
        go_wp2_with fail
        refine (need_ri (unhide HR) (unhide HA) [⟨#[125]⟩] ⟨#[125]⟩ (by decide) (by decide) (by decide) (is_one (unhide HR) (unhide HA).rs.att _ (by decide)) (unhide X5)).mono ?_
        rintro e w5 ⟨u5, rfl, a5, k5⟩
        have H5 := hide a5
        have K5 := hide k5
        clear a5 k5
        go_wp2_with (first | (at_builtin; refine append_acc (unhide H5) (unhide K5) _ _ rfl rfl rfl rfl (by (try simp only [List.length_append]); omega) ?_) | fail)
        intro v6 w6 a6
        have H6 := hide a6
        clear a6
        go_wp2_with fail
        refine (node_acc (unhide H6) (unhide H6).own ⟨#[98, 108, 111, 99, 107]⟩ (by simpa only [List.append_assoc] using unhide XF)).mono ?_
        rintro e w7 ⟨u7, rfl, a7, k7⟩
        have H7 := hide (a7.take k7)
        clear a7 k7
        go_wp2_with fail
        go_ret
        exact ⟨_, rfl, (unhide H7).cast (by first | rfl | simp)⟩
      · have hbb : decide (s2.bad < 0) = true := by simp [hb]
        go_wp2_with fail
        refine (is_acc (unhide HA) [⟨#[125]⟩] true (by decide) ((is_one (unhide HR) (unhide HA).rs.att _ (by decide)).trans hq)).mono ?_
        rintro e w8 ⟨rfl, a8⟩
        have H8 := hide a8
        clear a8
        go_wp2_with fail
        refine (need_ri (unhide HR) (unhide H8) [⟨#[125]⟩] ⟨#[125]⟩ (by decide) (by decide) (by decide) (is_one (unhide HR) (unhide H8).rs.att _ (by decide)) (unhide X5)).mono ?_
        rintro e w9 ⟨u9, rfl, a9, k9⟩
        have H9 := hide a9
        have K9 := hide k9
        clear a9 k9
        go_wp2_with (first | (at_builtin; refine append_acc (unhide H9) (unhide K9) _ _ rfl rfl rfl rfl (by (try simp only [List.length_append]); omega) ?_) | fail)
        intro v10 w10 a10
        have H10 := hide a10
        clear a10
        go_wp2_with fail
        refine (node_acc (unhide H10) (unhide H10).own ⟨#[98, 108, 111, 99, 107]⟩ (by simpa only [List.append_assoc] using unhide XF)).mono ?_
        rintro e w11 ⟨u11, rfl, a11, k11⟩
        have H11 := hide (a11.take k11)
        clear a11 k11
        go_wp2_with fail
        go_ret
        exact ⟨_, rfl, (unhide H11).cast (by first | rfl | simp)⟩

set_option maxHeartbeats 3200000 in
theorem rfunction_step {b : Nat} {lv : Value} {rt : List RTok} {toks : List Tok} {n : Nat} (R : Rel rt toks) (ih : ∀ m, m ≤ n → RIH b lv rt toks m) {w : World} {st st' : RSt} {r : List Rw} (hP : RS b lv rt w st) (h : Rg toks (n + 1) .function st = some (r, st')) : RDoes 15 b lv rt w r st' := by
  have HR := hide R
  have IHH := hide ih
  have H0 := hide (Acc.start hP)
  clear R ih hP
  obtain ⟨F, h1, hf, rfl⟩ := RI_node (show RI toks (Rg toks n) (.node ⟨#[102, 117, 110, 99, 116, 105, 111, 110]⟩ (.seq (.need kType) (.seq (.need kName) (.seq (.need ⟨#[40]⟩) (.seq (.ite (.go [41]) (.call .params) .skip) (.seq (.need ⟨#[41]⟩) (.call .block))))))) st = some (r, st') from h)
  obtain ⟨l1, s1, r1, h2, h3, rfl⟩ := RI_seq h1
  obtain ⟨l2, s2, r2, h4, h5, rfl⟩ := RI_seq h3
  obtain ⟨l3, s3, r3, h6, h7, rfl⟩ := RI_seq h5
  obtain ⟨l4, s4, r4, h8, h9, rfl⟩ := RI_seq h7
  obtain ⟨l5, s5, l6, h10, h11, rfl⟩ := RI_seq h9
  have X1 := hide h2
  have X2 := hide h4
  have X3 := hide h6
  have X4 := hide h8
  have X5 := hide h10
  have X6 : Hid (Rg toks n .block s5 = some (l6, st')) := h11
  have XF := hide hf
  have hL := fine_len hf
  simp only [List.length_append] at hL
  clear h h1 h2 h3 h4 h5 h6 h7 h8 h9 h10 h11 hf
  unfold RDoes
  go_enter Tryd.func15, Tryd.ntmps15
  go_wp2_with fail
  refine (typed_ri (unhide HR) (unhide H0) (unhide X1) (unhide X2)).mono ?_
  rintro e w1 ⟨u1, rfl, a1, k1⟩
  have H1 := hide (a1.take k1)
  clear a1 k1
  go_wp2_with fail
  refine (need_ri (unhide HR) (unhide H1) [⟨#[40]⟩] ⟨#[40]⟩ (by decide) (by decide) (by decide) (is_one (unhide HR) (unhide H1).rs.att _ (by decide)) (unhide X3)).mono ?_
  rintro e w2 ⟨u2, rfl, a2, k2⟩
  have H2 := hide a2
  have K2 := hide k2
  clear a2 k2
  go_wp2_with (first | (at_builtin; refine append_acc (unhide H2) (unhide K2) _ _ rfl rfl rfl rfl (by (try simp only [List.length_append]); omega) ?_) | fail)
  intro v3 w3 a3
  have H3 := hide a3
  clear a3
  go_wp2_with fail
  go_loopg [3, 4] n (fun g x fst wr => ∃ sk lk rk, g ≤ n ∧ Acc w b lv rt wr sk x lk ∧ Hid (lk ++ rk = l1 ++ (l2 ++ (l3 ++ l4))) ∧ ((fst = .bool true ∧ g = n ∧ Hid (RI toks (Rg toks g) (.ite (.go [41]) (.call .params) .skip) sk = some (rk, s4))) ∨ (fst = .bool false ∧ sk.bad < 0 ∧ ∃ ra sa rb, Hid (Rg toks g .param sk = some (ra, sa)) ∧ Hid (Rg toks g .paramsL sa = some (rb, s4)) ∧ rk = ra ++ rb)))
  case atStart => exact ⟨s3, l1 ++ (l2 ++ l3), l4, Nat.le_refl _, unhide H3, by show _ = _; simp only [List.append_assoc], .inl ⟨rfl, rfl, unhide X4⟩⟩
  case round =>
    obtain ⟨sk, lk, rk, hg, hA, XQ, hcase⟩ := hrel
    have HA := hide hA
    obtain ⟨_, _, c2, _⟩ := hA.rs.cells
    clear hA
    rcases hcase with ⟨rfl, hF⟩ | ⟨rfl, hb, ra, sa, rb, z1, z2, rfl⟩
    · skip
      rcases RI_ite (unhide hF.2) with ⟨hcf, hE⟩ | ⟨hcf, hE⟩
      · obtain ⟨hb, hq⟩ := go_yes hcf
        have hbb : decide (sk.bad < 0) = true := by simp [hb]
        cases gk with
        | zero => cases hE
        | succ g0 =>
        obtain ⟨ra, sa, rb, z1, z2, rfl⟩ := RI_seq (show RI toks (Rg toks g0) (.seq (.call .param) (.call .paramsL)) sk = some (rk, s4) from hE)
        have Z1 : Hid (Rg toks g0 .param sk = some (ra, sa)) := z1
        have Z2 : Hid (Rg toks g0 .paramsL sa = some (rb, s4)) := z2
        clear z1 z2 hE hF
        go_wp2_with fail
        refine (is_acc (unhide HA) [⟨#[41]⟩] false (by decide) ((is_one (unhide HR) (unhide HA).rs.att _ (by decide)).trans hq)).mono ?_
        rintro e w4 ⟨rfl, a4⟩
        have H4 := hide a4
        clear a4
        cases g0 with
        | zero => cases (unhide Z1)
        | succ g =>
        rcases RI_ite (show RI toks (Rg toks g) (.ite (.is [44]) (.seq .take (.seq (.call .param) (.call .paramsL))) .skip) sa = some (rb, s4) from unhide Z2) with ⟨hck, hE⟩ | ⟨hck, hE⟩
        · obtain ⟨a1, q1, b1, e1, e2, rfl⟩ := RI_seq hE
          obtain ⟨a2, q2, b2, e3, e4, rfl⟩ := RI_seq e2
          have Y1 := hide e1
          have Y2 : Hid (Rg toks g .param q1 = some (a2, q2)) := e3
          have Y3 : Hid (Rg toks g .paramsL q2 = some (b2, s4)) := e4
          have hlen := congrArg List.length (unhide XQ)
          simp only [List.length_append] at hlen
          clear hE e1 e2 e3 e4 Z2
          obtain ⟨P, hP, hfP, rfl⟩ := RI_node (show RI toks (Rg toks g) (.node ⟨#[112, 97, 114, 97, 109]⟩ (.seq (.need kType) (.need kName))) sk = some (ra, _) from unhide Z1)
          obtain ⟨p1, t1, p2, y1, y2, rfl⟩ := RI_seq hP
          have V1 := hide y1
          have V2 := hide y2
          have VF := hide hfP
          have hLP := fine_len hfP
          clear hP y1 y2 hfP
          go_wp2_with fail
          refine (typed_ri (unhide HR) (unhide H4) (unhide V1) (unhide V2)).mono ?_
          rintro e w5 ⟨u5, rfl, a5, k5⟩
          have H5 := hide a5
          have K5 := hide k5
          clear a5 k5
          go_wp2_with fail
          refine (node_acc (unhide H5) (unhide K5) ⟨#[112, 97, 114, 97, 109]⟩ (unhide VF)).mono ?_
          rintro e w6 ⟨u6, rfl, a6, k6⟩
          have H6 := hide a6
          have K6 := hide k6
          clear a6 k6
          go_wp2_with (first | (at_builtin; refine append_acc (unhide H6) (unhide K6) _ _ rfl rfl rfl rfl (by (try simp only [List.length_append]); omega) ?_) | fail)
          intro v7 w7 a7
          have H7 := hide a7
          clear a7
          go_wp2_with fail
          refine (is_acc (unhide H7) [⟨#[44]⟩] true (by decide) ((is_one (unhide HR) (unhide H7).rs.att _ (by decide)).trans hck)).mono ?_
          rintro e w8 ⟨rfl, a8⟩
          have H8 := hide a8
          clear a8
          go_wp2_with fail
          refine (take_ri (unhide HR) (unhide H8) [⟨#[44]⟩] (by decide) (by decide) ((is_one (unhide HR) (unhide H8).rs.att _ (by decide)).trans hck) (unhide Y1)).mono ?_
          rintro e w9 ⟨u9, rfl, a9, k9, b9⟩
          have H9 := hide a9
          have K9 := hide k9
          clear a9 k9
          go_wp2_with (first | (at_builtin; refine append_acc (unhide H9) (unhide K9) _ _ rfl rfl rfl rfl (by (try simp only [List.length_append]); omega) ?_) | fail)
          intro v10 w10 a10
          have H10 := hide a10
          clear a10
          go_wp2_with fail
          go_roundg g
          case measure => omega
          case rel => exact ⟨q1, _, a2 ++ b2, by omega, unhide H10, by show _ = _; rw [← unhide XQ]; simp only [List.append_assoc], .inr ⟨rfl, b9, a2, q2, b2, unhide Y2, unhide Y3, rfl⟩⟩
        · obtain ⟨rfl, rfl⟩ := RI_skip hE
          have hqq : lk ++ ra = l1 ++ (l2 ++ (l3 ++ l4)) := by rw [← unhide XQ, List.append_nil]
          have hlen := congrArg List.length hqq
          simp only [List.length_append] at hlen
          clear hE Z2 XQ
          obtain ⟨P, hP, hfP, rfl⟩ := RI_node (show RI toks (Rg toks g) (.node ⟨#[112, 97, 114, 97, 109]⟩ (.seq (.need kType) (.need kName))) sk = some (ra, _) from unhide Z1)
          obtain ⟨p1, t1, p2, y1, y2, rfl⟩ := RI_seq hP
          have V1 := hide y1
          have V2 := hide y2
          have VF := hide hfP
          have hLP := fine_len hfP
          clear hP y1 y2 hfP
          go_wp2_with fail
          refine (typed_ri (unhide HR) (unhide H4) (unhide V1) (unhide V2)).mono ?_
          rintro e w11 ⟨u11, rfl, a11, k11⟩
          have H11 := hide a11
          have K11 := hide k11
          clear a11 k11
          go_wp2_with fail
          refine (node_acc (unhide H11) (unhide K11) ⟨#[112, 97, 114, 97, 109]⟩ (unhide VF)).mono ?_
          rintro e w12 ⟨u12, rfl, a12, k12⟩
          have H12 := hide a12
          have K12 := hide k12
          clear a12 k12
          go_wp2_with (first | (at_builtin; refine append_acc (unhide H12) (unhide K12) _ _ rfl rfl rfl rfl (by (try simp only [List.length_append]); omega) ?_) | fail)
          intro v13 w13 a13
          have H13 := hide a13
          clear a13
          go_wp2_with fail
          refine (is_acc (unhide H13) [⟨#[44]⟩] false (by decide) ((is_one (unhide HR) (unhide H13).rs.att _ (by decide)).trans hck)).mono ?_
          rintro e w14 ⟨rfl, a14⟩
          have H14 := hide a14
          clear a14
          try rw [hqq] at H14
          go_wp2_with fail
          refine (need_ri (unhide HR) (unhide H14) [⟨#[41]⟩] ⟨#[41]⟩ (by decide) (by decide) (by decide) (is_one (unhide HR) (unhide H14).rs.att _ (by decide)) (unhide X5)).mono ?_
          rintro e w15 ⟨u15, rfl, a15, k15⟩
          have H15 := hide a15
          have K15 := hide k15
          clear a15 k15
          go_wp2_with (first | (at_builtin; refine append_acc (unhide H15) (unhide K15) _ _ rfl rfl rfl rfl (by (try simp only [List.length_append]); omega) ?_) | fail)
          intro v16 w16 a16
          have H16 := hide a16
          clear a16
          go_wp2_with fail
          refine Calls.mono (call_acc (unhide IHH n (Nat.le_refl n)) (unhide H16) .block rfl (unhide X6)) ?_
          rintro e w17 ⟨u17, rfl, a17, k17⟩
          have H17 := hide a17
          have K17 := hide k17
          clear a17 k17
          go_wp2_with (first | (at_builtin; refine append_acc (unhide H17) (unhide K17) _ _ rfl rfl rfl rfl (by (try simp only [List.length_append]); omega) ?_) | fail)
          intro v18 w18 a18
          have H18 := hide a18
          clear a18
          go_wp2_with fail
          refine (node_acc (unhide H18) (unhide H18).own ⟨#[102, 117, 110, 99, 116, 105, 111, 110]⟩ (by simpa only [List.append_assoc] using unhide XF)).mono ?_
          rintro e w19 ⟨u19, rfl, a19, k19⟩
          have H19 := hide (a19.take k19)
          clear a19 k19
          go_wp2_with fail
          go_ret
          exact ⟨_, rfl, (unhide H19).cast (by first | rfl | simp)⟩
      · obtain ⟨rfl, rfl⟩ := RI_skip hE
        have hqq : lk = l1 ++ (l2 ++ (l3 ++ l4)) := by rw [← unhide XQ, List.append_nil]
        subst hqq
        clear hE XQ hF
        rcases go_no hcf with hb | ⟨hb, hq⟩
        · have hbb : decide (s4.bad < 0) = false := by simp [hb]
          go_wp2_with fail
          refine (need_ri (unhide HR) (unhide HA) [⟨#[41]⟩] ⟨#[41]⟩ (by decide) (by decide) (by decide) (is_one (unhide HR) (unhide HA).rs.att _ (by decide)) (unhide X5)).mono ?_
          rintro e w20 ⟨u20, rfl, a20, k20⟩
          have H20 := hide a20
          have K20 := hide k20
          clear a20 k20
          go_wp2_with (first | (at_builtin; refine append_acc (unhide H20) (unhide K20) _ _ rfl rfl rfl rfl (by (try simp only [List.length_append]); omega) ?_) | fail)
          intro v21 w21 a21
          have H21 := hide a21
          clear a21
          go_wp2_with fail
          refine Calls.mono (call_acc (unhide IHH n (Nat.le_refl n)) (unhide H21) .block rfl (unhide X6)) ?_
          rintro e w22 ⟨u22, rfl, a22, k22⟩
          have H22 := hide a22
          have K22 := hide k22
          clear a22 k22
          go_wp2_with (first | (at_builtin; refine append_acc (unhide H22) (unhide K22) _ _ rfl rfl rfl rfl (by (try simp only [List.length_append]); omega) ?_) | fail)
          intro v23 w23 a23
          have H23 := hide a23
          clear a23
          go_wp2_with fail
          refine (node_acc (unhide H23) (unhide H23).own ⟨#[102, 117, 110, 99, 116, 105, 111, 110]⟩ (by simpa only [List.append_assoc] using unhide XF)).mono ?_
          rintro e w24 ⟨u24, rfl, a24, k24⟩
          have H24 := hide (a24.take k24)
          clear a24 k24
          go_wp2_with fail
          go_ret
          exact ⟨_, rfl, (unhide H24).cast (by first | rfl | simp)⟩
        · have hbb : decide (s4.bad < 0) = true := by simp [hb]
          go_wp2_with fail
          refine (is_acc (unhide HA) [⟨#[41]⟩] true (by decide) ((is_one (unhide HR) (unhide HA).rs.att _ (by decide)).trans hq)).mono ?_
          rintro e w25 ⟨rfl, a25⟩
          have H25 := hide a25
          clear a25
          go_wp2_with fail
          refine (need_ri (unhide HR) (unhide H25) [⟨#[41]⟩] ⟨#[41]⟩ (by decide) (by decide) (by decide) (is_one (unhide HR) (unhide H25).rs.att _ (by decide)) (unhide X5)).mono ?_
          rintro e w26 ⟨u26, rfl, a26, k26⟩
          have H26 := hide a26
          have K26 := hide k26
          clear a26 k26
          go_wp2_with (first | (at_builtin; refine append_acc (unhide H26) (unhide K26) _ _ rfl rfl rfl rfl (by (try simp only [List.length_append]); omega) ?_) | fail)
          intro v27 w27 a27
          have H27 := hide a27
          clear a27
          go_wp2_with fail
          refine Calls.mono (call_acc (unhide IHH n (Nat.le_refl n)) (unhide H27) .block rfl (unhide X6)) ?_
          rintro e w28 ⟨u28, rfl, a28, k28⟩
          have H28 := hide a28
          have K28 := hide k28
          clear a28 k28
          go_wp2_with (first | (at_builtin; refine append_acc (unhide H28) (unhide K28) _ _ rfl rfl rfl rfl (by (try simp only [List.length_append]); omega) ?_) | fail)
          intro v29 w29 a29
          have H29 := hide a29
          clear a29
          go_wp2_with fail
          refine (node_acc (unhide H29) (unhide H29).own ⟨#[102, 117, 110, 99, 116, 105, 111, 110]⟩ (by simpa only [List.append_assoc] using unhide XF)).mono ?_
          rintro e w30 ⟨u30, rfl, a30, k30⟩
          have H30 := hide (a30.take k30)
          clear a30 k30
          go_wp2_with fail
          go_ret
          exact ⟨_, rfl, (unhide H30).cast (by first | rfl | simp)⟩
    · have hbb : decide (sk.bad < 0) = true := by simp [hb]
      have Z1 := hide (unhide z1)
      have Z2 := hide (unhide z2)
      clear z1 z2
      cases gk with
      | zero => cases (unhide Z1)
      | succ g =>
      rcases RI_ite (show RI toks (Rg toks g) (.ite (.is [44]) (.seq .take (.seq (.call .param) (.call .paramsL))) .skip) sa = some (rb, s4) from unhide Z2) with ⟨hck, hE⟩ | ⟨hck, hE⟩
      · obtain ⟨a1, q1, b1, e1, e2, rfl⟩ := RI_seq hE
        obtain ⟨a2, q2, b2, e3, e4, rfl⟩ := RI_seq e2
        have Y1 := hide e1
        have Y2 : Hid (Rg toks g .param q1 = some (a2, q2)) := e3
        have Y3 : Hid (Rg toks g .paramsL q2 = some (b2, s4)) := e4
        have hlen := congrArg List.length (unhide XQ)
        simp only [List.length_append] at hlen
        clear hE e1 e2 e3 e4 Z2
        obtain ⟨P, hP, hfP, rfl⟩ := RI_node (show RI toks (Rg toks g) (.node ⟨#[112, 97, 114, 97, 109]⟩ (.seq (.need kType) (.need kName))) sk = some (ra, _) from unhide Z1)
        obtain ⟨p1, t1, p2, y1, y2, rfl⟩ := RI_seq hP
        have V1 := hide y1
        have V2 := hide y2
        have VF := hide hfP
        have hLP := fine_len hfP
        clear hP y1 y2 hfP
        go_wp2_with fail
        refine (typed_ri (unhide HR) (unhide HA) (unhide V1) (unhide V2)).mono ?_
        rintro e w31 ⟨u31, rfl, a31, k31⟩
        have H31 := hide a31
        have K31 := hide k31
        clear a31 k31
        go_wp2_with fail
        refine (node_acc (unhide H31) (unhide K31) ⟨#[112, 97, 114, 97, 109]⟩ (unhide VF)).mono ?_
        rintro e w32 ⟨u32, rfl, a32, k32⟩
        have H32 := hide a32
        have K32 := hide k32
        clear a32 k32
        go_wp2_with (first | (at_builtin; refine append_acc (unhide H32) (unhide K32) _ _ rfl rfl rfl rfl (by (try simp only [List.length_append]); omega) ?_) | fail)
        intro v33 w33 a33
        have H33 := hide a33
        clear a33
        go_wp2_with fail
        refine (is_acc (unhide H33) [⟨#[44]⟩] true (by decide) ((is_one (unhide HR) (unhide H33).rs.att _ (by decide)).trans hck)).mono ?_
        rintro e w34 ⟨rfl, a34⟩
        have H34 := hide a34
        clear a34
        go_wp2_with fail
        refine (take_ri (unhide HR) (unhide H34) [⟨#[44]⟩] (by decide) (by decide) ((is_one (unhide HR) (unhide H34).rs.att _ (by decide)).trans hck) (unhide Y1)).mono ?_
        rintro e w35 ⟨u35, rfl, a35, k35, b35⟩
        have H35 := hide a35
        have K35 := hide k35
        clear a35 k35
        go_wp2_with (first | (at_builtin; refine append_acc (unhide H35) (unhide K35) _ _ rfl rfl rfl rfl (by (try simp only [List.length_append]); omega) ?_) | fail)
        intro v36 w36 a36
        have H36 := hide a36
        clear a36
        go_wp2_with fail
        go_roundg g
        case measure => omega
        case rel => exact ⟨q1, _, a2 ++ b2, by omega, unhide H36, by show _ = _; rw [← unhide XQ]; simp only [List.append_assoc], .inr ⟨rfl, b35, a2, q2, b2, unhide Y2, unhide Y3, rfl⟩⟩
      · obtain ⟨rfl, rfl⟩ := RI_skip hE
        have hqq : lk ++ ra = l1 ++ (l2 ++ (l3 ++ l4)) := by rw [← unhide XQ, List.append_nil]
        have hlen := congrArg List.length hqq
        simp only [List.length_append] at hlen
        clear hE Z2 XQ
        obtain ⟨P, hP, hfP, rfl⟩ := RI_node (show RI toks (Rg toks g) (.node ⟨#[112, 97, 114, 97, 109]⟩ (.seq (.need kType) (.need kName))) sk = some (ra, _) from unhide Z1)
        obtain ⟨p1, t1, p2, y1, y2, rfl⟩ := RI_seq hP
        have V1 := hide y1
        have V2 := hide y2
        have VF := hide hfP
        have hLP := fine_len hfP
        clear hP y1 y2 hfP
        go_wp2_with fail
        refine (typed_ri (unhide HR) (unhide HA) (unhide V1) (unhide V2)).mono ?_
        rintro e w37 ⟨u37, rfl, a37, k37⟩
        have H37 := hide a37
        have K37 := hide k37
        clear a37 k37
        go_wp2_with fail
        refine (node_acc (unhide H37) (unhide K37) ⟨#[112, 97, 114, 97, 109]⟩ (unhide VF)).mono ?_
        rintro e w38 ⟨u38, rfl, a38, k38⟩
        have H38 := hide a38
        have K38 := hide k38
        clear a38 k38
        go_wp2_with (first | (at_builtin; refine append_acc (unhide H38) (unhide K38) _ _ rfl rfl rfl rfl (by (try simp only [List.length_append]); omega) ?_) | fail)
        intro v39 w39 a39
        have H39 := hide a39
        clear a39
        go_wp2_with fail
        refine (is_acc (unhide H39) [⟨#[44]⟩] false (by decide) ((is_one (unhide HR) (unhide H39).rs.att _ (by decide)).trans hck)).mono ?_
        rintro e w40 ⟨rfl, a40⟩
        have H40 := hide a40
        clear a40
        try rw [hqq] at H40
        go_wp2_with fail
        refine (need_ri (unhide HR) (unhide H40) [⟨#[41]⟩] ⟨#[41]⟩ (by decide) (by decide) (by decide) (is_one (unhide HR) (unhide H40).rs.att _ (by decide)) (unhide X5)).mono ?_
        rintro e w41 ⟨u41, rfl, a41, k41⟩
        have H41 := hide a41
        have K41 := hide k41
        clear a41 k41
        go_wp2_with (first | (at_builtin; refine append_acc (unhide H41) (unhide K41) _ _ rfl rfl rfl rfl (by (try simp only [List.length_append]); omega) ?_) | fail)
        intro v42 w42 a42
        have H42 := hide a42
        clear a42
        go_wp2_with fail
        refine Calls.mono (call_acc (unhide IHH n (Nat.le_refl n)) (unhide H42) .block rfl (unhide X6)) ?_
        rintro e w43 ⟨u43, rfl, a43, k43⟩
        have H43 := hide a43
        have K43 := hide k43
        clear a43 k43
        go_wp2_with (first | (at_builtin; refine append_acc (unhide H43) (unhide K43) _ _ rfl rfl rfl rfl (by (try simp only [List.length_append]); omega) ?_) | fail)
        intro v44 w44 a44
        have H44 := hide a44
        clear a44
        go_wp2_with fail
        refine (node_acc (unhide H44) (unhide H44).own ⟨#[102, 117, 110, 99, 116, 105, 111, 110]⟩ (by simpa only [List.append_assoc] using unhide XF)).mono ?_
        rintro e w45 ⟨u45, rfl, a45, k45⟩
        have H45 := hide (a45.take k45)
        clear a45 k45
        go_wp2_with fail
        go_ret
        exact ⟨_, rfl, (unhide H45).cast (by first | rfl | simp)⟩

end Go.Proofs.YtdaneedflpfeaaaDoor
