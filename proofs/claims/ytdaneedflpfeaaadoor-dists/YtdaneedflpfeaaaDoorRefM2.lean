import Derived.Test.YtdaneedflpfeaaaDoorRefAcc3
namespace Go.Proofs.YtdaneedflpfeaaaDoor
set_option maxRecDepth 100000
open Go.RowKit

set_option maxHeartbeats 3200000 in
theorem rrel_step {b : Nat} {lv : Value} {rt : List RTok} {toks : List Tok} {n : Nat} (R : Rel rt toks) (ih : ∀ m, m ≤ n → RIH b lv rt toks m) {w : World} {st st' : RSt} {r : List Rw} (hP : RS b lv rt w st) (h : Rg toks (n + 1) .rel st = some (r, st')) : RDoes 88 b lv rt w r st' := by
  have HR := hide R
  have IHH := hide ih
  have H0 := hide (Acc.start hP)
  clear R ih hP
  obtain ⟨l1, s1, h1, hcc⟩ := RI_wrap (show RI toks (Rg toks n) (.wrap ⟨#[114, 101, 108]⟩ (.call .sum) .rel (.seq .take (.call .sum))) st = some (r, st') from h)
  clear h
  have X1 := hide h1
  clear h1
  unfold RDoes
  go_enter Tryd.func88, Tryd.ntmps88
  go_wp2_with fail
  refine Calls.mono (call_acc (unhide IHH n (Nat.le_refl n)) (unhide H0) .sum rfl (unhide X1)) ?_
  rintro e w1 ⟨u1, rfl, a1, k1⟩
  have H1 := hide (a1.take k1)
  clear a1 k1
  rcases hcc with ⟨hc, m, h2, hf, rfl⟩ | ⟨hc, rfl, rfl⟩
  · obtain ⟨a1, q1, b1, e1, e2, rfl⟩ := RI_seq h2
    have Y1 := hide e1
    have Y2 : Hid (Rg toks n .sum q1 = some (b1, st')) := e2
    have XF := hide hf
    have hL := fine_len hf
    simp only [List.length_append] at hL
    clear h2 hf e1 e2
    go_wp2_with fail
    refine (is_acc (unhide H1) relW true (by decide) ((is_rel (unhide HR) (unhide H1).rs.att).trans hc)).mono ?_
    rintro e w2 ⟨rfl, a2⟩
    have H2 := hide a2
    clear a2
    go_wp2_with fail
    refine (take_ri (unhide HR) (unhide H2) relW (by decide) (by decide) ((is_rel (unhide HR) (unhide H2).rs.att).trans hc) (unhide Y1)).mono ?_
    rintro e w3 ⟨u3, rfl, a3, k3, b3⟩
    have H3 := hide a3
    have K3 := hide k3
    clear a3 k3
    go_wp2_with (first | (at_builtin; refine append_acc (unhide H3) (unhide K3) _ _ rfl rfl rfl rfl (by (try simp only [List.length_append]); omega) ?_) | fail)
    intro v4 w4 a4
    have H4 := hide a4
    clear a4
    go_wp2_with fail
    refine Calls.mono (call_acc (unhide IHH n (Nat.le_refl n)) (unhide H4) .sum rfl (unhide Y2)) ?_
    rintro e w5 ⟨u5, rfl, a5, k5⟩
    have H5 := hide a5
    have K5 := hide k5
    clear a5 k5
    go_wp2_with (first | (at_builtin; refine append_acc (unhide H5) (unhide K5) _ _ rfl rfl rfl rfl (by (try simp only [List.length_append]); omega) ?_) | fail)
    intro v6 w6 a6
    have H6 := hide a6
    clear a6
    go_wp2_with fail
    refine (node_acc (unhide H6) (unhide H6).own ⟨#[114, 101, 108]⟩ (by simpa only [List.append_assoc] using unhide XF)).mono ?_
    rintro e w7 ⟨u7, rfl, a7, k7⟩
    have H7 := hide (a7.take k7)
    clear a7 k7
    go_wp2_with fail
    go_ret
    exact ⟨_, rfl, (unhide H7).cast (by first | rfl | simp)⟩
  · skip
    go_wp2_with fail
    refine (is_acc (unhide H1) relW false (by decide) ((is_rel (unhide HR) (unhide H1).rs.att).trans hc)).mono ?_
    rintro e w8 ⟨rfl, a8⟩
    have H8 := hide a8
    clear a8
    go_wp2_with fail
    go_ret
    exact ⟨_, rfl, (unhide H8).cast (by first | rfl | simp)⟩

set_option maxHeartbeats 3200000 in
theorem rsum_step {b : Nat} {lv : Value} {rt : List RTok} {toks : List Tok} {n : Nat} (R : Rel rt toks) (ih : ∀ m, m ≤ n → RIH b lv rt toks m) {w : World} {st st' : RSt} {r : List Rw} (hP : RS b lv rt w st) (h : Rg toks (n + 1) .sum st = some (r, st')) : RDoes 91 b lv rt w r st' := by
  have HR := hide R
  have IHH := hide ih
  have H0 := hide (Acc.start hP)
  clear R ih hP
  obtain ⟨l1, s1, h1, hcc⟩ := RI_wrap (show RI toks (Rg toks n) (.wrap ⟨#[115, 117, 109]⟩ (.call .prod) .sum (.call .sumL)) st = some (r, st') from h)
  clear h
  have X1 := hide h1
  clear h1
  unfold RDoes
  go_enter Tryd.func91, Tryd.ntmps91
  go_wp2_with fail
  refine Calls.mono (call_acc (unhide IHH n (Nat.le_refl n)) (unhide H0) .prod rfl (unhide X1)) ?_
  rintro e w1 ⟨u1, rfl, a1, k1⟩
  have H1 := hide (a1.take k1)
  clear a1 k1
  rcases hcc with ⟨hc, m, h2, hf, rfl⟩ | ⟨hc, rfl, rfl⟩
  · have X2 := hide h2
    have XF := hide hf
    have hL := fine_len hf
    clear h2 hf
    go_wp2_with fail
    refine (is_acc (unhide H1) sumW true (by decide) ((is_sum (unhide HR) (unhide H1).rs.att).trans hc)).mono ?_
    rintro e w2 ⟨rfl, a2⟩
    have H2 := hide a2
    clear a2
    go_wp2_with fail
    go_loopg [3] n (fun g x wr => ∃ sk lk rk, g ≤ n ∧ Acc w b lv rt wr sk x lk ∧ Hid (Rg toks g .sumL sk = some (rk, st')) ∧ Hid (lk ++ rk = l1 ++ m))
    case atStart => exact ⟨s1, l1, m, Nat.le_refl _, unhide H2, unhide X2, rfl⟩
    case round =>
      obtain ⟨sk, lk, rk, hg, hA, XE, XQ⟩ := hrel
      have HA := hide hA
      clear hA
      cases gk with
      | zero => cases (unhide XE)
      | succ g =>
      rcases RI_ite (show RI toks (Rg toks g) (.ite .sum (.seq .take (.seq (.call .prod) (.call .sumL))) .skip) sk = some (rk, st') from unhide XE) with ⟨hck, hE⟩ | ⟨hck, hE⟩
      · obtain ⟨a1, q1, b1, e1, e2, rfl⟩ := RI_seq hE
        obtain ⟨a2, q2, b2, e3, e4, rfl⟩ := RI_seq e2
        have Y1 := hide e1
        have Y2 : Hid (Rg toks g .prod q1 = some (a2, q2)) := e3
        have Y3 : Hid (Rg toks g .sumL q2 = some (b2, st')) := e4
        have hlen := congrArg List.length (unhide XQ)
        simp only [List.length_append] at hlen hL
        clear hE e1 e2 e3 e4 XE
        go_wp2_with fail
        refine (is_acc (unhide HA) sumW true (by decide) ((is_sum (unhide HR) (unhide HA).rs.att).trans hck)).mono ?_
        rintro e w3 ⟨rfl, a3⟩
        have H3 := hide a3
        clear a3
        go_wp2_with fail
        refine (take_ri (unhide HR) (unhide H3) sumW (by decide) (by decide) ((is_sum (unhide HR) (unhide H3).rs.att).trans hck) (unhide Y1)).mono ?_
        rintro e w4 ⟨u4, rfl, a4, k4, b4⟩
        have H4 := hide a4
        have K4 := hide k4
        clear a4 k4
        go_wp2_with (first | (at_builtin; refine append_acc (unhide H4) (unhide K4) _ _ rfl rfl rfl rfl (by (try simp only [List.length_append]); omega) ?_) | fail)
        intro v5 w5 a5
        have H5 := hide a5
        clear a5
        go_wp2_with fail
        refine Calls.mono (call_acc (unhide IHH g (by omega)) (unhide H5) .prod rfl (unhide Y2)) ?_
        rintro e w6 ⟨u6, rfl, a6, k6⟩
        have H6 := hide a6
        have K6 := hide k6
        clear a6 k6
        go_wp2_with (first | (at_builtin; refine append_acc (unhide H6) (unhide K6) _ _ rfl rfl rfl rfl (by (try simp only [List.length_append]); omega) ?_) | fail)
        intro v7 w7 a7
        have H7 := hide a7
        clear a7
        go_wp2_with fail
        go_roundg g
        case measure => exact Nat.lt_succ_self g
        case rel => exact ⟨q2, _, b2, by omega, unhide H7, unhide Y3, by show _ = _; rw [← unhide XQ]; simp only [List.append_assoc]⟩
      · obtain ⟨rfl, rfl⟩ := RI_skip hE
        have hq : lk = l1 ++ m := by rw [← unhide XQ, List.append_nil]
        subst hq
        clear hE XE XQ
        go_wp2_with fail
        refine (is_acc (unhide HA) sumW false (by decide) ((is_sum (unhide HR) (unhide HA).rs.att).trans hck)).mono ?_
        rintro e w8 ⟨rfl, a8⟩
        have H8 := hide a8
        clear a8
        go_wp2_with fail
        refine (node_acc (unhide H8) (unhide H8).own ⟨#[115, 117, 109]⟩ (by simpa only [List.append_assoc] using unhide XF)).mono ?_
        rintro e w9 ⟨u9, rfl, a9, k9⟩
        have H9 := hide (a9.take k9)
        clear a9 k9
        go_wp2_with fail
        go_ret
        exact ⟨_, rfl, (unhide H9).cast (by first | rfl | simp)⟩
  · skip
    go_wp2_with fail
    refine (is_acc (unhide H1) sumW false (by decide) ((is_sum (unhide HR) (unhide H1).rs.att).trans hc)).mono ?_
    rintro e w10 ⟨rfl, a10⟩
    have H10 := hide a10
    clear a10
    go_wp2_with fail
    go_ret
    exact ⟨_, rfl, (unhide H10).cast (by first | rfl | simp)⟩

set_option maxHeartbeats 3200000 in
theorem rprod_step {b : Nat} {lv : Value} {rt : List RTok} {toks : List Tok} {n : Nat} (R : Rel rt toks) (ih : ∀ m, m ≤ n → RIH b lv rt toks m) {w : World} {st st' : RSt} {r : List Rw} (hP : RS b lv rt w st) (h : Rg toks (n + 1) .prod st = some (r, st')) : RDoes 94 b lv rt w r st' := by
  have HR := hide R
  have IHH := hide ih
  have H0 := hide (Acc.start hP)
  clear R ih hP
  obtain ⟨l1, s1, h1, hcc⟩ := RI_wrap (show RI toks (Rg toks n) (.wrap ⟨#[112, 114, 111, 100]⟩ (.call .single) .prod (.call .prodL)) st = some (r, st') from h)
  clear h
  have X1 := hide h1
  clear h1
  unfold RDoes
  go_enter Tryd.func94, Tryd.ntmps94
  go_wp2_with fail
  refine Calls.mono (call_acc (unhide IHH n (Nat.le_refl n)) (unhide H0) .single rfl (unhide X1)) ?_
  rintro e w1 ⟨u1, rfl, a1, k1⟩
  have H1 := hide (a1.take k1)
  clear a1 k1
  rcases hcc with ⟨hc, m, h2, hf, rfl⟩ | ⟨hc, rfl, rfl⟩
  · have X2 := hide h2
    have XF := hide hf
    have hL := fine_len hf
    clear h2 hf
    go_wp2_with fail
    refine (is_acc (unhide H1) prodW true (by decide) ((is_prod (unhide HR) (unhide H1).rs.att).trans hc)).mono ?_
    rintro e w2 ⟨rfl, a2⟩
    have H2 := hide a2
    clear a2
    go_wp2_with fail
    go_loopg [3] n (fun g x wr => ∃ sk lk rk, g ≤ n ∧ Acc w b lv rt wr sk x lk ∧ Hid (Rg toks g .prodL sk = some (rk, st')) ∧ Hid (lk ++ rk = l1 ++ m))
    case atStart => exact ⟨s1, l1, m, Nat.le_refl _, unhide H2, unhide X2, rfl⟩
    case round =>
      obtain ⟨sk, lk, rk, hg, hA, XE, XQ⟩ := hrel
      have HA := hide hA
      clear hA
      cases gk with
      | zero => cases (unhide XE)
      | succ g =>
      rcases RI_ite (show RI toks (Rg toks g) (.ite .prod (.seq .take (.seq (.call .single) (.call .prodL))) .skip) sk = some (rk, st') from unhide XE) with ⟨hck, hE⟩ | ⟨hck, hE⟩
      · obtain ⟨a1, q1, b1, e1, e2, rfl⟩ := RI_seq hE
        obtain ⟨a2, q2, b2, e3, e4, rfl⟩ := RI_seq e2
        have Y1 := hide e1
        have Y2 : Hid (Rg toks g .single q1 = some (a2, q2)) := e3
        have Y3 : Hid (Rg toks g .prodL q2 = some (b2, st')) := e4
        have hlen := congrArg List.length (unhide XQ)
        simp only [List.length_append] at hlen hL
        clear hE e1 e2 e3 e4 XE
        go_wp2_with fail
        refine (is_acc (unhide HA) prodW true (by decide) ((is_prod (unhide HR) (unhide HA).rs.att).trans hck)).mono ?_
        rintro e w3 ⟨rfl, a3⟩
        have H3 := hide a3
        clear a3
        go_wp2_with fail
        refine (take_ri (unhide HR) (unhide H3) prodW (by decide) (by decide) ((is_prod (unhide HR) (unhide H3).rs.att).trans hck) (unhide Y1)).mono ?_
        rintro e w4 ⟨u4, rfl, a4, k4, b4⟩
        have H4 := hide a4
        have K4 := hide k4
        clear a4 k4
        go_wp2_with (first | (at_builtin; refine append_acc (unhide H4) (unhide K4) _ _ rfl rfl rfl rfl (by (try simp only [List.length_append]); omega) ?_) | fail)
        intro v5 w5 a5
        have H5 := hide a5
        clear a5
        go_wp2_with fail
        refine Calls.mono (call_acc (unhide IHH g (by omega)) (unhide H5) .single rfl (unhide Y2)) ?_
        rintro e w6 ⟨u6, rfl, a6, k6⟩
        have H6 := hide a6
        have K6 := hide k6
        clear a6 k6
        go_wp2_with (first | (at_builtin; refine append_acc (unhide H6) (unhide K6) _ _ rfl rfl rfl rfl (by (try simp only [List.length_append]); omega) ?_) | fail)
        intro v7 w7 a7
        have H7 := hide a7
        clear a7
        go_wp2_with fail
        go_roundg g
        case measure => exact Nat.lt_succ_self g
        case rel => exact ⟨q2, _, b2, by omega, unhide H7, unhide Y3, by show _ = _; rw [← unhide XQ]; simp only [List.append_assoc]⟩
      · obtain ⟨rfl, rfl⟩ := RI_skip hE
        have hq : lk = l1 ++ m := by rw [← unhide XQ, List.append_nil]
        subst hq
        clear hE XE XQ
        go_wp2_with fail
        refine (is_acc (unhide HA) prodW false (by decide) ((is_prod (unhide HR) (unhide HA).rs.att).trans hck)).mono ?_
        rintro e w8 ⟨rfl, a8⟩
        have H8 := hide a8
        clear a8
        go_wp2_with fail
        refine (node_acc (unhide H8) (unhide H8).own ⟨#[112, 114, 111, 100]⟩ (by simpa only [List.append_assoc] using unhide XF)).mono ?_
        rintro e w9 ⟨u9, rfl, a9, k9⟩
        have H9 := hide (a9.take k9)
        clear a9 k9
        go_wp2_with fail
        go_ret
        exact ⟨_, rfl, (unhide H9).cast (by first | rfl | simp)⟩
  · skip
    go_wp2_with fail
    refine (is_acc (unhide H1) prodW false (by decide) ((is_prod (unhide HR) (unhide H1).rs.att).trans hc)).mono ?_
    rintro e w10 ⟨rfl, a10⟩
    have H10 := hide a10
    clear a10
    go_wp2_with fail
    go_ret
    exact ⟨_, rfl, (unhide H10).cast (by first | rfl | simp)⟩

end Go.Proofs.YtdaneedflpfeaaaDoor
