import Derived.Test.YtdaneedflpfeaaaDoorRefAcc3
namespace Go.Proofs.YtdaneedflpfeaaaDoor
set_option maxRecDepth 100000
open Go.RowKit

theorem next_here {rt : List RTok} {toks : List Tok} {st : RSt} (R : Rel rt toks) (hk : st.k < rt.length) (hc : condR toks st (.is kName.data.toList) = true) :
    ∃ r, rt[st.k + 1]? = some r ∧ st.k + 1 < rt.length ∧ (r.what.toList == [61]) = ((kindA toks (st.k + 1)).data.toList == [61]) := by
  obtain ⟨t, ht⟩ : ∃ t, toks[st.k]? = some t := ⟨toks[st.k]'(by rw [R.len]; exact hk), List.getElem?_eq_getElem _⟩
  obtain ⟨r0, _, _, _, _, _, hn⟩ := R.at_ st.k t ht
  have hkx : t.kind = kName := by
    simp only [condR, condA, condK, kindA, ht, Bool.and_eq_true, beq_iff_eq] at hc
    exact ByteArray.ext (Array.toList_inj.mp hc.2)
  have hlt : st.k + 1 < rt.length := hn (by rw [hkx]; decide) (by rw [hkx]; decide)
  obtain ⟨t1, ht1⟩ : ∃ t, toks[st.k + 1]? = some t := ⟨toks[st.k + 1]'(by rw [R.len]; exact hlt), List.getElem?_eq_getElem _⟩
  obtain ⟨r, hr, hkd, _⟩ := R.at_ _ t1 ht1
  refine ⟨r, hr, hlt, ?_⟩
  have hx : plainW ⟨#[61]⟩ = true := by decide
  simp only [plainW, Bool.and_eq_true, Bool.not_eq_true', decide_eq_true_eq] at hx
  rw [Bool.eq_iff_iff]
  simp only [kindA, ht1, beq_iff_eq]
  constructor
  · intro h
    have : r.what = ⟨#[61]⟩ := ba_ext (h.trans (by rw [Go.ByteArray.toList_eq]))
    have : t1.kind = ⟨#[61]⟩ := by rw [← hkd]; exact (kindW_eq (by rw [Go.ByteArray.toList_eq]; exact hx.1.1) hx.1.2).2 this
    rw [this]
  · intro h
    have h1 : t1.kind = ⟨#[61]⟩ := ByteArray.ext (Array.toList_inj.mp h)
    have : r.what = ⟨#[61]⟩ := (kindW_eq (by rw [Go.ByteArray.toList_eq]; exact hx.1.1) hx.1.2).1 (hkd.trans h1)
    rw [this, Go.ByteArray.toList_eq]
theorem is_at {w0 w : World} {b : Nat} {lv : Value} {rt : List RTok} {st : RSt} {v : Value} {l : List Rw} (A : Acc w0 b lv rt w st v l) (B : Nat) (ws : List ByteArray) (c : Bool) (hn : ws.length ≤ 10) (hB : w.heap[B]? = some (.cells (ws.map Value.string).toArray 9 (0, 0))) (hc : isR rt st ws = c) :
    Calls Tryd.prog 14 #[.pointer (some ⟨b, 0, none⟩), .slice (some ⟨B, 0, none⟩) ws.length ws.length] w fun e w' => e = .returned (.bool c) ∧ Acc w0 b lv rt w' st v l := by
  refine (is_any b lv rt _ st A.rs B ws ws.length hn 9 (0, 0) hB).mono ?_
  rintro e w' ⟨rfl, n, rfl⟩
  exact ⟨by rw [hc], A.none (grown_drewN _ _ _)⟩
theorem set_no {toks : List Tok} {st : RSt} (h : condR toks st .set = false) : condR toks st (.is kName.data.toList) = false ∨ (condR toks st (.is kName.data.toList) = true ∧ ((kindA toks (st.k + 1)).data.toList == [61]) = false) := by
  cases hn : condR toks st (.is kName.data.toList) with
  | false => exact .inl rfl
  | true =>
    right
    refine ⟨rfl, ?_⟩
    simp only [condR, condA, condK, Bool.and_eq_true, decide_eq_true_eq] at hn h
    have h2 : ((kindA toks st.k).data.toList == [110, 97, 109, 101]) = true := hn.2
    rw [h2, decide_eq_true hn.1] at h
    simpa using h
theorem set_yes {toks : List Tok} {st : RSt} (h : condR toks st .set = true) : condR toks st (.is kName.data.toList) = true ∧ ((kindA toks (st.k + 1)).data.toList == [61]) = true := by
  simp only [condR, condA, condK, Bool.and_eq_true, decide_eq_true_eq] at h
  exact ⟨by simp only [condR, condA, condK, Bool.and_eq_true, decide_eq_true_eq]; exact ⟨h.1, h.2.1⟩, h.2.2⟩

set_option maxHeartbeats 3200000 in
theorem rvalue_step {b : Nat} {lv : Value} {rt : List RTok} {toks : List Tok} {n : Nat} (R : Rel rt toks) (ih : ∀ m, m ≤ n → RIH b lv rt toks m) {w : World} {st st' : RSt} {r : List Rw} (hP : RS b lv rt w st) (h : Rg toks (n + 1) .value st = some (r, st')) : RDoes 64 b lv rt w r st' := by
  have HR := hide R
  have IHH := hide ih
  have H0 := hide (Acc.start hP)
  have hatt := hP.att
  have hfew := hP.few
  obtain ⟨gt, capt, hlv, _⟩ := hP.tat
  clear R ih hP
  rcases RI_ite (show RI toks (Rg toks n) (.ite .set (.call .set) (.call .or)) st = some (r, st') from h) with ⟨hc, h1⟩ | ⟨hc, h1⟩
  · obtain ⟨hn, he⟩ := set_yes hc
    obtain ⟨nx, hnx, hlt, hxe⟩ := next_here (unhide HR) hatt hn
    rw [he] at hxe
    cases n with
    | zero => cases h1
    | succ n1 =>
    obtain ⟨F, j1, hf, rfl⟩ := RI_node (show RI toks (Rg toks n1) (.node ⟨#[115, 101, 116]⟩ (.seq (.need kName) (.seq (.need ⟨#[61]⟩) (.call .value)))) st = some (r, st') from h1)
    obtain ⟨l1, s1, r1, j2, j3, rfl⟩ := RI_seq j1
    obtain ⟨l2, s2, l3, j4, j5, rfl⟩ := RI_seq j3
    have X1 := hide j2
    have X2 := hide j4
    have X3 : Hid (Rg toks n1 .value s2 = some (l3, st')) := j5
    have XF := hide hf
    have hL := fine_len hf
    simp only [List.length_append] at hL
    clear h h1 j1 j2 j3 j4 j5 hf hc he
    subst hlv
    have HN := hide hnx
    clear hnx
    have hlt' : (st.k : Int) + 1 < (rt.length : Int) := by omega
    have hge' : (0 : Int) ≤ (st.k : Int) + 1 := by omega
    have hto' : ((st.k : Int) + 1).toNat = st.k + 1 := by omega
    have hwr : IntKind.i64.wrap ((st.k : Int) + 1) = (st.k : Int) + 1 := IntWalk.i64_in _ (by omega)
    unfold RDoes
    go_enter Tryd.func64, Tryd.ntmps64
    go_wp2_with fail
    go_region_with (go_at_call 14; refine (is_at (((unhide H0).alloc _).none (grown_drew _ none)) w.heap.size [kName] true (by decide) (heap_alloc_new _ _) ((is_one (unhide HR) (unhide H0).rs.att _ (by decide)).trans hn)).mono ?_; rintro e w1 ⟨rfl, a1⟩; obtain ⟨d0, d1, d2, d3⟩ := a1.rs.cells; obtain ⟨e0, e1, e2⟩ := a1.rs.tokCell rfl (unhide HN); have H1 := hide a1; clear a1)
    all_goals
      go_wp2_with fail
      refine (need_ri (unhide HR) (unhide H1) [kName] kName (by decide) (by decide) (by decide) (is_one (unhide HR) (unhide H1).rs.att _ (by decide)) (unhide X1)).mono ?_
      rintro e w2 ⟨u2, rfl, a2, k2⟩
      have H2 := hide (a2.take k2)
      clear a2 k2
      go_wp2_with fail
      refine (need_ri (unhide HR) (unhide H2) [⟨#[61]⟩] ⟨#[61]⟩ (by decide) (by decide) (by decide) (is_one (unhide HR) (unhide H2).rs.att _ (by decide)) (unhide X2)).mono ?_
      rintro e w3 ⟨u3, rfl, a3, k3⟩
      have H3 := hide a3
      have K3 := hide k3
      clear a3 k3
      go_wp2_with (first | (at_builtin; refine append_acc (unhide H3) (unhide K3) _ _ rfl rfl rfl rfl (by (try simp only [List.length_append]); omega) ?_) | fail)
      intro v4 w4 a4
      have H4 := hide a4
      clear a4
      go_wp2_with fail
      refine Calls.mono (call_acc (unhide IHH n1 (by omega)) (unhide H4) .value rfl (unhide X3)) ?_
      rintro e w5 ⟨u5, rfl, a5, k5⟩
      have H5 := hide a5
      have K5 := hide k5
      clear a5 k5
      go_wp2_with (first | (at_builtin; refine append_acc (unhide H5) (unhide K5) _ _ rfl rfl rfl rfl (by (try simp only [List.length_append]); omega) ?_) | fail)
      intro v6 w6 a6
      have H6 := hide a6
      clear a6
      go_wp2_with fail
      refine (node_acc (unhide H6) (unhide H6).own ⟨#[115, 101, 116]⟩ (by simpa only [List.append_assoc] using unhide XF)).mono ?_
      rintro e w7 ⟨u7, rfl, a7, k7⟩
      have H7 := hide (a7.take k7)
      clear a7 k7
      go_wp2_with fail
      go_ret
      exact ⟨_, rfl, (unhide H7).cast (by first | rfl | simp)⟩
  · have X1 : Hid (Rg toks n .or st = some (r, st')) := h1
    clear h h1
    have hge' : (0 : Int) ≤ (st.k : Int) + 1 := by omega
    have hto' : ((st.k : Int) + 1).toNat = st.k + 1 := by omega
    have hwr : IntKind.i64.wrap ((st.k : Int) + 1) = (st.k : Int) + 1 := IntWalk.i64_in _ (by omega)
    subst hlv
    rcases set_no hc with hn | ⟨hn, he⟩
    · clear hc
      unfold RDoes
      go_enter Tryd.func64, Tryd.ntmps64
      go_wp2_with fail
      first | go_region_with (go_at_call 14; refine (is_at (((unhide H0).alloc _).none (grown_drew _ none)) w.heap.size [kName] false (by decide) (heap_alloc_new _ _) ((is_one (unhide HR) (unhide H0).rs.att _ (by decide)).trans hn)).mono ?_; rintro e w1 ⟨rfl, a1⟩; have H1 := hide a1; clear a1) | fail
      all_goals
        go_wp2_with fail
        refine Calls.mono (call_acc (unhide IHH n (Nat.le_refl n)) (unhide H1) .or rfl (unhide X1)) ?_
        rintro e w2 ⟨u2, rfl, a2, k2⟩
        have H2 := hide (a2.take k2)
        clear a2 k2
        go_wp2_with fail
        go_ret
        exact ⟨_, rfl, (unhide H2).cast (by first | rfl | simp)⟩
    · obtain ⟨nx, hnx, hlt, hxe⟩ := next_here (unhide HR) hatt hn
      rw [he] at hxe
      have HN := hide hnx
      clear hnx hc he
      have hlt' : (st.k : Int) + 1 < (rt.length : Int) := by omega
      unfold RDoes
      go_enter Tryd.func64, Tryd.ntmps64
      go_wp2_with fail
      go_region_with (go_at_call 14; refine (is_at (((unhide H0).alloc _).none (grown_drew _ none)) w.heap.size [kName] true (by decide) (heap_alloc_new _ _) ((is_one (unhide HR) (unhide H0).rs.att _ (by decide)).trans hn)).mono ?_; rintro e w1 ⟨rfl, a1⟩; obtain ⟨d0, d1, d2, d3⟩ := a1.rs.cells; obtain ⟨e0, e1, e2⟩ := a1.rs.tokCell rfl (unhide HN); have H1 := hide a1; clear a1)
      all_goals
        go_wp2_with fail
        refine Calls.mono (call_acc (unhide IHH n (Nat.le_refl n)) (unhide H1) .or rfl (unhide X1)) ?_
        rintro e w2 ⟨u2, rfl, a2, k2⟩
        have H2 := hide (a2.take k2)
        clear a2 k2
        go_wp2_with fail
        go_ret
        exact ⟨_, rfl, (unhide H2).cast (by first | rfl | simp)⟩

end Go.Proofs.YtdaneedflpfeaaaDoor
