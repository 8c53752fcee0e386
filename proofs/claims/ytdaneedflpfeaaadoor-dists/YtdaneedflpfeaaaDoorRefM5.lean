import Derived.Test.YtdaneedflpfeaaaDoorRefAcc3
namespace Go.Proofs.YtdaneedflpfeaaaDoor
set_option maxRecDepth 100000
open Go.RowKit

set_option maxHeartbeats 3200000 in
theorem rstatement_step {b : Nat} {lv : Value} {rt : List RTok} {toks : List Tok} {n : Nat} (R : Rel rt toks) (ih : ∀ m, m ≤ n → RIH b lv rt toks m) {w : World} {st st' : RSt} {r : List Rw} (hP : RS b lv rt w st) (h : Rg toks (n + 1) .statement st = some (r, st')) : RDoes 49 b lv rt w r st' := by
  have HR := hide R
  have IHH := hide ih
  have H0 := hide (Acc.start hP)
  clear R ih hP
  rcases RI_ite (show RI toks (Rg toks n) (.ite (.is [123]) (.call .block) (.ite (.is [59]) (.call .emptyS) (.ite (.is [105, 102]) (.call .ifS) (.ite (.is [119, 104, 105, 108, 101]) (.call .whileS) (.ite (.is [114, 101, 116, 117, 114, 110]) (.call .returnS) (.ite (.is [116, 121, 112, 101]) (.call .localS) (.call .expr))))))) st = some (r, st') from h) with ⟨hc1, h1⟩ | ⟨hc1, h1⟩
  · have X1 : Hid (Rg toks n .block st = some (r, st')) := h1
    clear h h1
    unfold RDoes
    go_enter Tryd.func49, Tryd.ntmps49
    go_wp2_with fail
    refine (is_acc (unhide H0) [⟨#[123]⟩] true (by decide) ((is_one (unhide HR) (unhide H0).rs.att _ (by decide)).trans hc1)).mono ?_
    rintro e w1 ⟨rfl, a1⟩
    have H1 := hide a1
    clear a1
    go_wp2_with fail
    refine Calls.mono (call_acc (unhide IHH n (Nat.le_refl n)) (unhide H1) .block rfl (unhide X1)) ?_
    rintro e w2 ⟨u2, rfl, a2, k2⟩
    have H2 := hide (a2.take k2)
    clear a2 k2
    go_wp2_with fail
    go_ret
    exact ⟨_, rfl, (unhide H2).cast (by first | rfl | simp)⟩
  · rcases RI_ite h1 with ⟨hc2, h2⟩ | ⟨hc2, h2⟩
    · cases n with
      | zero => cases h2
      | succ n1 =>
      obtain ⟨F, h3, hf, rfl⟩ := RI_node (show RI toks (Rg toks n1) (.node ⟨#[101, 109, 112, 116, 121]⟩ (.need ⟨#[59]⟩)) st = some (r, st') from h2)
      have X1 := hide h3
      have XF := hide hf
      clear h h1 h2 h3 hf
      unfold RDoes
      go_enter Tryd.func49, Tryd.ntmps49
      go_wp2_with fail
      refine (is_acc (unhide H0) [⟨#[123]⟩] false (by decide) ((is_one (unhide HR) (unhide H0).rs.att _ (by decide)).trans hc1)).mono ?_
      rintro e w3 ⟨rfl, a3⟩
      have H3 := hide a3
      clear a3
      go_wp2_with fail
      refine (is_acc (unhide H3) [⟨#[59]⟩] true (by decide) ((is_one (unhide HR) (unhide H3).rs.att _ (by decide)).trans hc2)).mono ?_
      rintro e w4 ⟨rfl, a4⟩
      have H4 := hide a4
      clear a4
      go_wp2_with fail
      refine (need_ri (unhide HR) (unhide H4) [⟨#[59]⟩] ⟨#[59]⟩ (by decide) (by decide) (by decide) (is_one (unhide HR) (unhide H4).rs.att _ (by decide)) (unhide X1)).mono ?_
      rintro e w5 ⟨u5, rfl, a5, k5⟩
      have H5 := hide (a5.take k5)
      clear a5 k5
      go_wp2_with fail
      refine (node_acc (unhide H5) (unhide H5).own ⟨#[101, 109, 112, 116, 121]⟩ (unhide XF)).mono ?_
      rintro e w6 ⟨u6, rfl, a6, k6⟩
      have H6 := hide (a6.take k6)
      clear a6 k6
      go_wp2_with fail
      go_ret
      exact ⟨_, rfl, (unhide H6).cast (by first | rfl | simp)⟩
    · rcases RI_ite h2 with ⟨hc3, h3⟩ | ⟨hc3, h3⟩
      · cases n with
        | zero => cases h3
        | succ n1 =>
        obtain ⟨F, j1, hf, rfl⟩ := RI_node (show RI toks (Rg toks n1) (.node ⟨#[105, 102]⟩ (.seq (.need ⟨#[105, 102]⟩) (.seq (.call .condition) (.seq (.call .statement) (.ite (.is [101, 108, 115, 101]) (.seq .take (.call .statement)) .skip))))) st = some (r, st') from h3)
        obtain ⟨l1, s1, r1, j2, j3, rfl⟩ := RI_seq j1
        obtain ⟨lc, s2, r2, j4, j5, rfl⟩ := RI_seq j3
        cases n1 with
        | zero => cases j4
        | succ n2 =>
        obtain ⟨c1, t1, r3, j6, j7, rfl⟩ := RI_seq (show RI toks (Rg toks n2) (.seq (.need ⟨#[40]⟩) (.seq (.call .value) (.need ⟨#[41]⟩))) s1 = some (lc, s2) from j4)
        obtain ⟨c2, t2, c3, j8, j9, rfl⟩ := RI_seq j7
        have X1 := hide j2
        have C1 := hide j6
        have C2 : Hid (Rg toks n2 .value t1 = some (c2, t2)) := j8
        have C3 := hide j9
        obtain ⟨l3, s3, l4, j10, j11, rfl⟩ := RI_seq j5
        have X3 : Hid (Rg toks (n2 + 1) .statement s2 = some (l3, s3)) := j10
        have X4 := hide j11
        have XF := hide hf
        have hL := fine_len hf
        simp only [List.length_append] at hL
        clear j1 j2 j3 j4 j5 j6 j7 j8 j9 j10 j11 hf
        clear h h1 h2 h3
        obtain ⟨gt, capt, hlv, hct⟩ := what_here (unhide HR) (unhide H0).rs ⟨#[105, 102]⟩ (by decide) hc3
        have hatt := (unhide H0).rs.att
        have hfew := (unhide H0).rs.few
        have hlt' : (st.k : Int) < (rt.length : Int) := by omega
        subst hlv
        unfold RDoes
        go_enter Tryd.func49, Tryd.ntmps49
        go_wp2_with fail
        refine (is_acc (unhide H0) [⟨#[123]⟩] false (by decide) ((is_one (unhide HR) (unhide H0).rs.att _ (by decide)).trans hc1)).mono ?_
        rintro e w7 ⟨rfl, a7⟩
        have H7 := hide a7
        clear a7
        go_wp2_with fail
        refine (is_acc (unhide H7) [⟨#[59]⟩] false (by decide) ((is_one (unhide HR) (unhide H7).rs.att _ (by decide)).trans hc2)).mono ?_
        rintro e w8 ⟨rfl, a8⟩
        have H8 := hide a8
        clear a8
        go_wp2_with fail
        refine (is_acc (unhide H8) [⟨#[105, 102]⟩, ⟨#[119, 104, 105, 108, 101]⟩] true (by decide) ((is_two (unhide HR) (unhide H8).rs.att ⟨#[105, 102]⟩ ⟨#[119, 104, 105, 108, 101]⟩ (by decide) (by decide)).trans (by rw [show condR toks st (.is (⟨#[105, 102]⟩ : ByteArray).data.toList) = true from hc3]; rfl))).mono ?_
        rintro e w9 ⟨rfl, a9⟩
        have H9 := hide a9
        clear a9
        go_wp2_with fail
        obtain ⟨d0, d1, _, _⟩ := (unhide H9).rs.cells
        obtain ⟨g2, cap2, hlv2, hc2t⟩ := what_here (unhide HR) (unhide H9).rs ⟨#[105, 102]⟩ (by decide) hc3
        have hge : gt = g2 := by simpa using (Value.slice.inj hlv2).1
        subst hge
        clear hlv2
        go_quiet (fail)
        go_wp2_with fail
        refine (need_ri (unhide HR) ((unhide H9).none (grown_drewN _ nq none)) [⟨#[105, 102]⟩, ⟨#[119, 104, 105, 108, 101]⟩] ⟨#[105, 102]⟩ (by decide) (by decide) (by decide) ((is_two (unhide HR) (unhide H9).rs.att ⟨#[105, 102]⟩ ⟨#[119, 104, 105, 108, 101]⟩ (by decide) (by decide)).trans (by rw [show condR toks st (.is (⟨#[105, 102]⟩ : ByteArray).data.toList) = true from hc3]; rfl)) (unhide X1)).mono ?_
        rintro e w10 ⟨u10, rfl, a10, k10⟩
        have H10 := hide (a10.take k10)
        clear a10 k10
        go_wp2_with fail
        refine (need_ri (unhide HR) (unhide H10) [⟨#[40]⟩] ⟨#[40]⟩ (by decide) (by decide) (by decide) (is_one (unhide HR) (unhide H10).rs.att _ (by decide)) (unhide C1)).mono ?_
        rintro e w11 ⟨u11, rfl, a11, k11⟩
        have H11 := hide a11
        have K11 := hide k11
        clear a11 k11
        go_wp2_with (first | (at_builtin; refine append_acc (unhide H11) (unhide K11) _ _ rfl rfl rfl rfl (by (try simp only [List.length_append]); omega) ?_) | fail)
        intro v12 w12 a12
        have H12 := hide a12
        clear a12
        go_wp2_with fail
        refine Calls.mono (call_acc (unhide IHH n2 (by omega)) (unhide H12) .value rfl (unhide C2)) ?_
        rintro e w13 ⟨u13, rfl, a13, k13⟩
        have H13 := hide a13
        have K13 := hide k13
        clear a13 k13
        go_wp2_with (first | (at_builtin; refine append_acc (unhide H13) (unhide K13) _ _ rfl rfl rfl rfl (by (try simp only [List.length_append]); omega) ?_) | fail)
        intro v14 w14 a14
        have H14 := hide a14
        clear a14
        go_wp2_with fail
        refine (need_ri (unhide HR) (unhide H14) [⟨#[41]⟩] ⟨#[41]⟩ (by decide) (by decide) (by decide) (is_one (unhide HR) (unhide H14).rs.att _ (by decide)) (unhide C3)).mono ?_
        rintro e w15 ⟨u15, rfl, a15, k15⟩
        have H15 := hide a15
        have K15 := hide k15
        clear a15 k15
        go_wp2_with (first | (at_builtin; refine append_acc (unhide H15) (unhide K15) _ _ rfl rfl rfl rfl (by (try simp only [List.length_append]); omega) ?_) | fail)
        intro v16 w16 a16
        have H16 := hide a16
        clear a16
        go_wp2_with fail
        refine Calls.mono (call_acc (unhide IHH (n2 + 1) (by omega)) (unhide H16) .statement rfl (unhide X3)) ?_
        rintro e w17 ⟨u17, rfl, a17, k17⟩
        have H17 := hide a17
        have K17 := hide k17
        clear a17 k17
        go_wp2_with (first | (at_builtin; refine append_acc (unhide H17) (unhide K17) _ _ rfl rfl rfl rfl (by (try simp only [List.length_append]); omega) ?_) | fail)
        intro v18 w18 a18
        have H18 := hide a18
        clear a18
        rcases RI_ite (unhide X4) with ⟨hce, j12⟩ | ⟨hce, j12⟩
        · obtain ⟨l5, s5, l6, j13, j14, rfl⟩ := RI_seq j12
          have X5 := hide j13
          have X6 : Hid (Rg toks (n2 + 1) .statement s5 = some (l6, st')) := j14
          simp only [List.length_append] at hL
          clear j12 j13 j14 X4
          go_wp2_with fail
          refine (is_acc (unhide H18) [⟨#[101, 108, 115, 101]⟩] true (by decide) ((is_one (unhide HR) (unhide H18).rs.att _ (by decide)).trans hce)).mono ?_
          rintro e w19 ⟨rfl, a19⟩
          have H19 := hide a19
          clear a19
          go_wp2_with fail
          refine (take_ri (unhide HR) (unhide H19) [⟨#[101, 108, 115, 101]⟩] (by decide) (by decide) ((is_one (unhide HR) (unhide H19).rs.att _ (by decide)).trans hce) (unhide X5)).mono ?_
          rintro e w20 ⟨u20, rfl, a20, k20, b20⟩
          have H20 := hide a20
          have K20 := hide k20
          clear a20 k20
          go_wp2_with (first | (at_builtin; refine append_acc (unhide H20) (unhide K20) _ _ rfl rfl rfl rfl (by (try simp only [List.length_append]); omega) ?_) | fail)
          intro v21 w21 a21
          have H21 := hide a21
          clear a21
          go_wp2_with fail
          refine Calls.mono (call_acc (unhide IHH (n2 + 1) (by omega)) (unhide H21) .statement rfl (unhide X6)) ?_
          rintro e w22 ⟨u22, rfl, a22, k22⟩
          have H22 := hide a22
          have K22 := hide k22
          clear a22 k22
          go_wp2_with (first | (at_builtin; refine append_acc (unhide H22) (unhide K22) _ _ rfl rfl rfl rfl (by (try simp only [List.length_append]); omega) ?_) | fail)
          intro v23 w23 a23
          have H23 := hide a23
          clear a23
          go_wp2_with fail
          refine (node_acc (unhide H23) (unhide H23).own ⟨#[105, 102]⟩ (by simpa only [List.append_assoc] using unhide XF)).mono ?_
          rintro e w24 ⟨u24, rfl, a24, k24⟩
          have H24 := hide (a24.take k24)
          clear a24 k24
          go_wp2_with fail
          go_ret
          exact ⟨_, rfl, (unhide H24).cast (by first | rfl | simp)⟩
        · obtain ⟨rfl, rfl⟩ := RI_skip j12
          clear j12 X4
          go_wp2_with fail
          refine (is_acc (unhide H18) [⟨#[101, 108, 115, 101]⟩] false (by decide) ((is_one (unhide HR) (unhide H18).rs.att _ (by decide)).trans hce)).mono ?_
          rintro e w25 ⟨rfl, a25⟩
          have H25 := hide a25
          clear a25
          go_wp2_with fail
          refine (node_acc (unhide H25) (unhide H25).own ⟨#[105, 102]⟩ (by simpa only [List.append_assoc, List.append_nil] using unhide XF)).mono ?_
          rintro e w26 ⟨u26, rfl, a26, k26⟩
          have H26 := hide (a26.take k26)
          clear a26 k26
          go_wp2_with fail
          go_ret
          exact ⟨_, rfl, (unhide H26).cast (by first | rfl | simp)⟩
      · rcases RI_ite h3 with ⟨hc4, h4⟩ | ⟨hc4, h4⟩
        · cases n with
          | zero => cases h4
          | succ n1 =>
          obtain ⟨F, j1, hf, rfl⟩ := RI_node (show RI toks (Rg toks n1) (.node ⟨#[119, 104, 105, 108, 101]⟩ (.seq (.need ⟨#[119, 104, 105, 108, 101]⟩) (.seq (.call .condition) (.call .statement)))) st = some (r, st') from h4)
          obtain ⟨l1, s1, r1, j2, j3, rfl⟩ := RI_seq j1
          obtain ⟨lc, s2, r2, j4, j5, rfl⟩ := RI_seq j3
          cases n1 with
          | zero => cases j4
          | succ n2 =>
          obtain ⟨c1, t1, r3, j6, j7, rfl⟩ := RI_seq (show RI toks (Rg toks n2) (.seq (.need ⟨#[40]⟩) (.seq (.call .value) (.need ⟨#[41]⟩))) s1 = some (lc, s2) from j4)
          obtain ⟨c2, t2, c3, j8, j9, rfl⟩ := RI_seq j7
          have X1 := hide j2
          have C1 := hide j6
          have C2 : Hid (Rg toks n2 .value t1 = some (c2, t2)) := j8
          have C3 := hide j9
          have X3 : Hid (Rg toks (n2 + 1) .statement s2 = some (r2, st')) := j5
          have XF := hide hf
          have hL := fine_len hf
          simp only [List.length_append] at hL
          clear j1 j2 j3 j4 j5 j6 j7 j8 j9 hf
          clear h h1 h2 h3 h4
          obtain ⟨gt, capt, hlv, hct⟩ := what_here (unhide HR) (unhide H0).rs ⟨#[119, 104, 105, 108, 101]⟩ (by decide) hc4
          have hatt := (unhide H0).rs.att
          have hfew := (unhide H0).rs.few
          have hlt' : (st.k : Int) < (rt.length : Int) := by omega
          subst hlv
          unfold RDoes
          go_enter Tryd.func49, Tryd.ntmps49
          go_wp2_with fail
          refine (is_acc (unhide H0) [⟨#[123]⟩] false (by decide) ((is_one (unhide HR) (unhide H0).rs.att _ (by decide)).trans hc1)).mono ?_
          rintro e w27 ⟨rfl, a27⟩
          have H27 := hide a27
          clear a27
          go_wp2_with fail
          refine (is_acc (unhide H27) [⟨#[59]⟩] false (by decide) ((is_one (unhide HR) (unhide H27).rs.att _ (by decide)).trans hc2)).mono ?_
          rintro e w28 ⟨rfl, a28⟩
          have H28 := hide a28
          clear a28
          go_wp2_with fail
          refine (is_acc (unhide H28) [⟨#[105, 102]⟩, ⟨#[119, 104, 105, 108, 101]⟩] true (by decide) ((is_two (unhide HR) (unhide H28).rs.att ⟨#[105, 102]⟩ ⟨#[119, 104, 105, 108, 101]⟩ (by decide) (by decide)).trans (by rw [show condR toks st (.is (⟨#[119, 104, 105, 108, 101]⟩ : ByteArray).data.toList) = true from hc4, Bool.or_true]))).mono ?_
          rintro e w29 ⟨rfl, a29⟩
          have H29 := hide a29
          clear a29
          go_wp2_with fail
          obtain ⟨d0, d1, _, _⟩ := (unhide H29).rs.cells
          obtain ⟨g2, cap2, hlv2, hc2t⟩ := what_here (unhide HR) (unhide H29).rs ⟨#[119, 104, 105, 108, 101]⟩ (by decide) hc4
          have hge : gt = g2 := by simpa using (Value.slice.inj hlv2).1
          subst hge
          clear hlv2
          go_quiet (fail)
          go_wp2_with fail
          refine (need_ri (unhide HR) ((unhide H29).none (grown_drewN _ nq none)) [⟨#[105, 102]⟩, ⟨#[119, 104, 105, 108, 101]⟩] ⟨#[119, 104, 105, 108, 101]⟩ (by decide) (by decide) (by decide) ((is_two (unhide HR) (unhide H29).rs.att ⟨#[105, 102]⟩ ⟨#[119, 104, 105, 108, 101]⟩ (by decide) (by decide)).trans (by rw [show condR toks st (.is (⟨#[119, 104, 105, 108, 101]⟩ : ByteArray).data.toList) = true from hc4, Bool.or_true])) (unhide X1)).mono ?_
          rintro e w30 ⟨u30, rfl, a30, k30⟩
          have H30 := hide (a30.take k30)
          clear a30 k30
          go_wp2_with fail
          refine (need_ri (unhide HR) (unhide H30) [⟨#[40]⟩] ⟨#[40]⟩ (by decide) (by decide) (by decide) (is_one (unhide HR) (unhide H30).rs.att _ (by decide)) (unhide C1)).mono ?_
          rintro e w31 ⟨u31, rfl, a31, k31⟩
          have H31 := hide a31
          have K31 := hide k31
          clear a31 k31
          go_wp2_with (first | (at_builtin; refine append_acc (unhide H31) (unhide K31) _ _ rfl rfl rfl rfl (by (try simp only [List.length_append]); omega) ?_) | fail)
          intro v32 w32 a32
          have H32 := hide a32
          clear a32
          go_wp2_with fail
          refine Calls.mono (call_acc (unhide IHH n2 (by omega)) (unhide H32) .value rfl (unhide C2)) ?_
          rintro e w33 ⟨u33, rfl, a33, k33⟩
          have H33 := hide a33
          have K33 := hide k33
          clear a33 k33
          go_wp2_with (first | (at_builtin; refine append_acc (unhide H33) (unhide K33) _ _ rfl rfl rfl rfl (by (try simp only [List.length_append]); omega) ?_) | fail)
          intro v34 w34 a34
          have H34 := hide a34
          clear a34
          go_wp2_with fail
          refine (need_ri (unhide HR) (unhide H34) [⟨#[41]⟩] ⟨#[41]⟩ (by decide) (by decide) (by decide) (is_one (unhide HR) (unhide H34).rs.att _ (by decide)) (unhide C3)).mono ?_
          rintro e w35 ⟨u35, rfl, a35, k35⟩
          have H35 := hide a35
          have K35 := hide k35
          clear a35 k35
          go_wp2_with (first | (at_builtin; refine append_acc (unhide H35) (unhide K35) _ _ rfl rfl rfl rfl (by (try simp only [List.length_append]); omega) ?_) | fail)
          intro v36 w36 a36
          have H36 := hide a36
          clear a36
          go_wp2_with fail
          refine Calls.mono (call_acc (unhide IHH (n2 + 1) (by omega)) (unhide H36) .statement rfl (unhide X3)) ?_
          rintro e w37 ⟨u37, rfl, a37, k37⟩
          have H37 := hide a37
          have K37 := hide k37
          clear a37 k37
          go_wp2_with (first | (at_builtin; refine append_acc (unhide H37) (unhide K37) _ _ rfl rfl rfl rfl (by (try simp only [List.length_append]); omega) ?_) | fail)
          intro v38 w38 a38
          have H38 := hide a38
          clear a38
          go_wp2_with fail
          refine (node_acc (unhide H38) (unhide H38).own ⟨#[119, 104, 105, 108, 101]⟩ (by simpa only [List.append_assoc] using unhide XF)).mono ?_
          rintro e w39 ⟨u39, rfl, a39, k39⟩
          have H39 := hide (a39.take k39)
          clear a39 k39
          go_wp2_with fail
          go_ret
          exact ⟨_, rfl, (unhide H39).cast (by first | rfl | simp)⟩
        · rcases RI_ite h4 with ⟨hc5, h5⟩ | ⟨hc5, h5⟩
          · cases n with
            | zero => cases h5
            | succ n1 =>
            obtain ⟨F, j1, hf, rfl⟩ := RI_node (show RI toks (Rg toks n1) (.node ⟨#[114, 101, 116, 117, 114, 110]⟩ (.seq (.need ⟨#[114, 101, 116, 117, 114, 110]⟩) (.seq (.ite (.is [59]) .skip (.call .value)) (.need ⟨#[59]⟩)))) st = some (r, st') from h5)
            obtain ⟨l1, s1, r1, j2, j3, rfl⟩ := RI_seq j1
            obtain ⟨l2, s2, l3, j4, j5, rfl⟩ := RI_seq j3
            have X1 := hide j2
            have X2 := hide j4
            have X3 := hide j5
            have XF := hide hf
            have hL := fine_len hf
            simp only [List.length_append] at hL
            clear h h1 h2 h3 h4 h5 j1 j2 j3 j4 j5 hf
            unfold RDoes
            go_enter Tryd.func49, Tryd.ntmps49
            go_wp2_with fail
            refine (is_acc (unhide H0) [⟨#[123]⟩] false (by decide) ((is_one (unhide HR) (unhide H0).rs.att _ (by decide)).trans hc1)).mono ?_
            rintro e w40 ⟨rfl, a40⟩
            have H40 := hide a40
            clear a40
            go_wp2_with fail
            refine (is_acc (unhide H40) [⟨#[59]⟩] false (by decide) ((is_one (unhide HR) (unhide H40).rs.att _ (by decide)).trans hc2)).mono ?_
            rintro e w41 ⟨rfl, a41⟩
            have H41 := hide a41
            clear a41
            go_wp2_with fail
            refine (is_acc (unhide H41) [⟨#[105, 102]⟩, ⟨#[119, 104, 105, 108, 101]⟩] false (by decide) ((is_two (unhide HR) (unhide H41).rs.att ⟨#[105, 102]⟩ ⟨#[119, 104, 105, 108, 101]⟩ (by decide) (by decide)).trans (by rw [show condR toks st (.is (⟨#[105, 102]⟩ : ByteArray).data.toList) = false from hc3, show condR toks st (.is (⟨#[119, 104, 105, 108, 101]⟩ : ByteArray).data.toList) = false from hc4]; rfl))).mono ?_
            rintro e w42 ⟨rfl, a42⟩
            have H42 := hide a42
            clear a42
            go_wp2_with fail
            refine (is_acc (unhide H42) [⟨#[114, 101, 116, 117, 114, 110]⟩] true (by decide) ((is_one (unhide HR) (unhide H42).rs.att _ (by decide)).trans hc5)).mono ?_
            rintro e w43 ⟨rfl, a43⟩
            have H43 := hide a43
            clear a43
            go_wp2_with fail
            refine (need_ri (unhide HR) (unhide H43) [⟨#[114, 101, 116, 117, 114, 110]⟩] ⟨#[114, 101, 116, 117, 114, 110]⟩ (by decide) (by decide) (by decide) (is_one (unhide HR) (unhide H43).rs.att _ (by decide)) (unhide X1)).mono ?_
            rintro e w44 ⟨u44, rfl, a44, k44⟩
            have H44 := hide (a44.take k44)
            clear a44 k44
            rcases RI_ite (unhide X2) with ⟨hce, j12⟩ | ⟨hce, j12⟩
            · obtain ⟨rfl, rfl⟩ := RI_skip j12
              clear j12 X2
              go_wp2_with fail
              refine (is_acc (unhide H44) [⟨#[59]⟩] true (by decide) ((is_one (unhide HR) (unhide H44).rs.att _ (by decide)).trans hce)).mono ?_
              rintro e w45 ⟨rfl, a45⟩
              have H45 := hide a45
              clear a45
              go_wp2_with fail
              refine (need_ri (unhide HR) (unhide H45) [⟨#[59]⟩] ⟨#[59]⟩ (by decide) (by decide) (by decide) (is_one (unhide HR) (unhide H45).rs.att _ (by decide)) (unhide X3)).mono ?_
              rintro e w46 ⟨u46, rfl, a46, k46⟩
              have H46 := hide a46
              have K46 := hide k46
              clear a46 k46
              go_wp2_with (first | (at_builtin; refine append_acc (unhide H46) (unhide K46) _ _ rfl rfl rfl rfl (by (try simp only [List.length_append]); omega) ?_) | fail)
              intro v47 w47 a47
              have H47 := hide a47
              clear a47
              go_wp2_with fail
              refine (node_acc (unhide H47) (unhide H47).own ⟨#[114, 101, 116, 117, 114, 110]⟩ (by simpa only [List.append_assoc, List.nil_append] using unhide XF)).mono ?_
              rintro e w48 ⟨u48, rfl, a48, k48⟩
              have H48 := hide (a48.take k48)
              clear a48 k48
              go_wp2_with fail
              go_ret
              exact ⟨_, rfl, (unhide H48).cast (by first | rfl | simp)⟩
            · have X4 : Hid (Rg toks n1 .value s1 = some (l2, s2)) := j12
              clear j12 X2
              go_wp2_with fail
              refine (is_acc (unhide H44) [⟨#[59]⟩] false (by decide) ((is_one (unhide HR) (unhide H44).rs.att _ (by decide)).trans hce)).mono ?_
              rintro e w49 ⟨rfl, a49⟩
              have H49 := hide a49
              clear a49
              go_wp2_with fail
              refine Calls.mono (call_acc (unhide IHH n1 (by omega)) (unhide H49) .value rfl (unhide X4)) ?_
              rintro e w50 ⟨u50, rfl, a50, k50⟩
              have H50 := hide a50
              have K50 := hide k50
              clear a50 k50
              go_wp2_with (first | (at_builtin; refine append_acc (unhide H50) (unhide K50) _ _ rfl rfl rfl rfl (by (try simp only [List.length_append]); omega) ?_) | fail)
              intro v51 w51 a51
              have H51 := hide a51
              clear a51
              go_wp2_with fail
              refine (need_ri (unhide HR) (unhide H51) [⟨#[59]⟩] ⟨#[59]⟩ (by decide) (by decide) (by decide) (is_one (unhide HR) (unhide H51).rs.att _ (by decide)) (unhide X3)).mono ?_
              rintro e w52 ⟨u52, rfl, a52, k52⟩
              have H52 := hide a52
              have K52 := hide k52
              clear a52 k52
              go_wp2_with (first | (at_builtin; refine append_acc (unhide H52) (unhide K52) _ _ rfl rfl rfl rfl (by (try simp only [List.length_append]); omega) ?_) | fail)
              intro v53 w53 a53
              have H53 := hide a53
              clear a53
              go_wp2_with fail
              refine (node_acc (unhide H53) (unhide H53).own ⟨#[114, 101, 116, 117, 114, 110]⟩ (by simpa only [List.append_assoc] using unhide XF)).mono ?_
              rintro e w54 ⟨u54, rfl, a54, k54⟩
              have H54 := hide (a54.take k54)
              clear a54 k54
              go_wp2_with fail
              go_ret
              exact ⟨_, rfl, (unhide H54).cast (by first | rfl | simp)⟩
          · rcases RI_ite h5 with ⟨hc6, h6⟩ | ⟨hc6, h6⟩
            · cases n with
              | zero => cases h6
              | succ n1 =>
              obtain ⟨F, j1, hf, rfl⟩ := RI_node (show RI toks (Rg toks n1) (.node ⟨#[108, 111, 99, 97, 108]⟩ (.seq (.need kType) (.seq (.need kName) (.seq (.ite (.is [61]) (.seq .take (.call .value)) .skip) (.need ⟨#[59]⟩))))) st = some (r, st') from h6)
              obtain ⟨l1, s1, r1, j2, j3, rfl⟩ := RI_seq j1
              obtain ⟨l2, s2, r2, j4, j5, rfl⟩ := RI_seq j3
              obtain ⟨l3, s3, l4, j6, j7, rfl⟩ := RI_seq j5
              have X1 := hide j2
              have X2 := hide j4
              have X3 := hide j6
              have X4 := hide j7
              have XF := hide hf
              have hL := fine_len hf
              simp only [List.length_append] at hL
              clear h h1 h2 h3 h4 h5 h6 j1 j2 j3 j4 j5 j6 j7 hf
              unfold RDoes
              go_enter Tryd.func49, Tryd.ntmps49
              go_wp2_with fail
              refine (is_acc (unhide H0) [⟨#[123]⟩] false (by decide) ((is_one (unhide HR) (unhide H0).rs.att _ (by decide)).trans hc1)).mono ?_
              rintro e w55 ⟨rfl, a55⟩
              have H55 := hide a55
              clear a55
              go_wp2_with fail
              refine (is_acc (unhide H55) [⟨#[59]⟩] false (by decide) ((is_one (unhide HR) (unhide H55).rs.att _ (by decide)).trans hc2)).mono ?_
              rintro e w56 ⟨rfl, a56⟩
              have H56 := hide a56
              clear a56
              go_wp2_with fail
              refine (is_acc (unhide H56) [⟨#[105, 102]⟩, ⟨#[119, 104, 105, 108, 101]⟩] false (by decide) ((is_two (unhide HR) (unhide H56).rs.att ⟨#[105, 102]⟩ ⟨#[119, 104, 105, 108, 101]⟩ (by decide) (by decide)).trans (by rw [show condR toks st (.is (⟨#[105, 102]⟩ : ByteArray).data.toList) = false from hc3, show condR toks st (.is (⟨#[119, 104, 105, 108, 101]⟩ : ByteArray).data.toList) = false from hc4]; rfl))).mono ?_
              rintro e w57 ⟨rfl, a57⟩
              have H57 := hide a57
              clear a57
              go_wp2_with fail
              refine (is_acc (unhide H57) [⟨#[114, 101, 116, 117, 114, 110]⟩] false (by decide) ((is_one (unhide HR) (unhide H57).rs.att _ (by decide)).trans hc5)).mono ?_
              rintro e w58 ⟨rfl, a58⟩
              have H58 := hide a58
              clear a58
              go_wp2_with fail
              refine (is_acc (unhide H58) tyW true (by decide) ((isR_ty (unhide HR) (unhide H58).rs.att).trans hc6)).mono ?_
              rintro e w59 ⟨rfl, a59⟩
              have H59 := hide a59
              clear a59
              go_wp2_with fail
              refine (typed_ri (unhide HR) (unhide H59) (unhide X1) (unhide X2)).mono ?_
              rintro e w60 ⟨u60, rfl, a60, k60⟩
              have H60 := hide (a60.take k60)
              clear a60 k60
              rcases RI_ite (unhide X3) with ⟨hce, j12⟩ | ⟨hce, j12⟩
              · obtain ⟨l5, s5, l6, j13, j14, rfl⟩ := RI_seq j12
                have X5 := hide j13
                have X6 : Hid (Rg toks n1 .value s5 = some (l6, s3)) := j14
                simp only [List.length_append] at hL
                clear j12 j13 j14 X3
                go_wp2_with fail
                refine (is_acc (unhide H60) [⟨#[61]⟩] true (by decide) ((is_one (unhide HR) (unhide H60).rs.att _ (by decide)).trans hce)).mono ?_
                rintro e w61 ⟨rfl, a61⟩
                have H61 := hide a61
                clear a61
                go_wp2_with fail
                refine (take_ri (unhide HR) (unhide H61) [⟨#[61]⟩] (by decide) (by decide) ((is_one (unhide HR) (unhide H61).rs.att _ (by decide)).trans hce) (unhide X5)).mono ?_
                rintro e w62 ⟨u62, rfl, a62, k62, b62⟩
                have H62 := hide a62
                have K62 := hide k62
                clear a62 k62
                go_wp2_with (first | (at_builtin; refine append_acc (unhide H62) (unhide K62) _ _ rfl rfl rfl rfl (by (try simp only [List.length_append]); omega) ?_) | fail)
                intro v63 w63 a63
                have H63 := hide a63
                clear a63
                go_wp2_with fail
                refine Calls.mono (call_acc (unhide IHH n1 (by omega)) (unhide H63) .value rfl (unhide X6)) ?_
                rintro e w64 ⟨u64, rfl, a64, k64⟩
                have H64 := hide a64
                have K64 := hide k64
                clear a64 k64
                go_wp2_with (first | (at_builtin; refine append_acc (unhide H64) (unhide K64) _ _ rfl rfl rfl rfl (by (try simp only [List.length_append]); omega) ?_) | fail)
                intro v65 w65 a65
                have H65 := hide a65
                clear a65
                go_wp2_with fail
                refine (need_ri (unhide HR) (unhide H65) [⟨#[59]⟩] ⟨#[59]⟩ (by decide) (by decide) (by decide) (is_one (unhide HR) (unhide H65).rs.att _ (by decide)) (unhide X4)).mono ?_
                rintro e w66 ⟨u66, rfl, a66, k66⟩
                have H66 := hide a66
                have K66 := hide k66
                clear a66 k66
                go_wp2_with (first | (at_builtin; refine append_acc (unhide H66) (unhide K66) _ _ rfl rfl rfl rfl (by (try simp only [List.length_append]); omega) ?_) | fail)
                intro v67 w67 a67
                have H67 := hide a67
                clear a67
                go_wp2_with fail
                refine (node_acc (unhide H67) (unhide H67).own ⟨#[108, 111, 99, 97, 108]⟩ (by simpa only [List.append_assoc] using unhide XF)).mono ?_
                rintro e w68 ⟨u68, rfl, a68, k68⟩
                have H68 := hide (a68.take k68)
                clear a68 k68
                go_wp2_with fail
                go_ret
                exact ⟨_, rfl, (unhide H68).cast (by first | rfl | simp)⟩
              · obtain ⟨rfl, rfl⟩ := RI_skip j12
                clear j12 X3
                go_wp2_with fail
                refine (is_acc (unhide H60) [⟨#[61]⟩] false (by decide) ((is_one (unhide HR) (unhide H60).rs.att _ (by decide)).trans hce)).mono ?_
                rintro e w69 ⟨rfl, a69⟩
                have H69 := hide a69
                clear a69
                go_wp2_with fail
                refine (need_ri (unhide HR) (unhide H69) [⟨#[59]⟩] ⟨#[59]⟩ (by decide) (by decide) (by decide) (is_one (unhide HR) (unhide H69).rs.att _ (by decide)) (unhide X4)).mono ?_
                rintro e w70 ⟨u70, rfl, a70, k70⟩
                have H70 := hide a70
                have K70 := hide k70
                clear a70 k70
                go_wp2_with (first | (at_builtin; refine append_acc (unhide H70) (unhide K70) _ _ rfl rfl rfl rfl (by (try simp only [List.length_append]); omega) ?_) | fail)
                intro v71 w71 a71
                have H71 := hide a71
                clear a71
                go_wp2_with fail
                refine (node_acc (unhide H71) (unhide H71).own ⟨#[108, 111, 99, 97, 108]⟩ (by simpa only [List.append_assoc, List.nil_append] using unhide XF)).mono ?_
                rintro e w72 ⟨u72, rfl, a72, k72⟩
                have H72 := hide (a72.take k72)
                clear a72 k72
                go_wp2_with fail
                go_ret
                exact ⟨_, rfl, (unhide H72).cast (by first | rfl | simp)⟩
            · cases n with
              | zero => cases h6
              | succ n1 =>
              obtain ⟨F, j1, hf, rfl⟩ := RI_node (show RI toks (Rg toks n1) (.node ⟨#[101, 120, 112, 114]⟩ (.seq (.call .value) (.need ⟨#[59]⟩))) st = some (r, st') from h6)
              obtain ⟨l1, s1, l2, j2, j3, rfl⟩ := RI_seq j1
              have X1 : Hid (Rg toks n1 .value st = some (l1, s1)) := j2
              have X2 := hide j3
              have XF := hide hf
              have hL := fine_len hf
              simp only [List.length_append] at hL
              clear h h1 h2 h3 h4 h5 h6 j1 j2 j3 hf
              unfold RDoes
              go_enter Tryd.func49, Tryd.ntmps49
              go_wp2_with fail
              refine (is_acc (unhide H0) [⟨#[123]⟩] false (by decide) ((is_one (unhide HR) (unhide H0).rs.att _ (by decide)).trans hc1)).mono ?_
              rintro e w73 ⟨rfl, a73⟩
              have H73 := hide a73
              clear a73
              go_wp2_with fail
              refine (is_acc (unhide H73) [⟨#[59]⟩] false (by decide) ((is_one (unhide HR) (unhide H73).rs.att _ (by decide)).trans hc2)).mono ?_
              rintro e w74 ⟨rfl, a74⟩
              have H74 := hide a74
              clear a74
              go_wp2_with fail
              refine (is_acc (unhide H74) [⟨#[105, 102]⟩, ⟨#[119, 104, 105, 108, 101]⟩] false (by decide) ((is_two (unhide HR) (unhide H74).rs.att ⟨#[105, 102]⟩ ⟨#[119, 104, 105, 108, 101]⟩ (by decide) (by decide)).trans (by rw [show condR toks st (.is (⟨#[105, 102]⟩ : ByteArray).data.toList) = false from hc3, show condR toks st (.is (⟨#[119, 104, 105, 108, 101]⟩ : ByteArray).data.toList) = false from hc4]; rfl))).mono ?_
              rintro e w75 ⟨rfl, a75⟩
              have H75 := hide a75
              clear a75
              go_wp2_with fail
              refine (is_acc (unhide H75) [⟨#[114, 101, 116, 117, 114, 110]⟩] false (by decide) ((is_one (unhide HR) (unhide H75).rs.att _ (by decide)).trans hc5)).mono ?_
              rintro e w76 ⟨rfl, a76⟩
              have H76 := hide a76
              clear a76
              go_wp2_with fail
              refine (is_acc (unhide H76) tyW false (by decide) ((isR_ty (unhide HR) (unhide H76).rs.att).trans hc6)).mono ?_
              rintro e w77 ⟨rfl, a77⟩
              have H77 := hide a77
              clear a77
              go_wp2_with fail
              refine Calls.mono (call_acc (unhide IHH n1 (by omega)) (unhide H77) .value rfl (unhide X1)) ?_
              rintro e w78 ⟨u78, rfl, a78, k78⟩
              have H78 := hide (a78.take k78)
              clear a78 k78
              go_wp2_with fail
              refine (need_ri (unhide HR) (unhide H78) [⟨#[59]⟩] ⟨#[59]⟩ (by decide) (by decide) (by decide) (is_one (unhide HR) (unhide H78).rs.att _ (by decide)) (unhide X2)).mono ?_
              rintro e w79 ⟨u79, rfl, a79, k79⟩
              have H79 := hide a79
              have K79 := hide k79
              clear a79 k79
              go_wp2_with (first | (at_builtin; refine append_acc (unhide H79) (unhide K79) _ _ rfl rfl rfl rfl (by (try simp only [List.length_append]); omega) ?_) | fail)
              intro v80 w80 a80
              have H80 := hide a80
              clear a80
              go_wp2_with fail
              refine (node_acc (unhide H80) (unhide H80).own ⟨#[101, 120, 112, 114]⟩ (by simpa only [List.append_assoc] using unhide XF)).mono ?_
              rintro e w81 ⟨u81, rfl, a81, k81⟩
              have H81 := hide (a81.take k81)
              clear a81 k81
              go_wp2_with fail
              go_ret
              exact ⟨_, rfl, (unhide H81).cast (by first | rfl | simp)⟩

end Go.Proofs.YtdaneedflpfeaaaDoor
