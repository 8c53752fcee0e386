import Derived.Test.YtdaneedflpfeaaaDoorRefSim
import Derived.Test.YtdaneedflpfeaaaDoorRead2
import Derived.Test.YtdaneedflpfeaaaDoorPure1
namespace Go.Proofs.YtdaneedflpfeaaaDoor
set_option maxRecDepth 100000
open Go.RowKit

theorem rscan_at (s : ByteArray) : ∀ n i, i ≤ s.size → s.size < n + i → ∀ t ∈ rscan s i, t.at_ ≤ s.size := by
  intro n
  induction n with
  | zero => intro i h1 h2; omega
  | succ n ih =>
    intro i hi hn t ht
    have ha := aheadE_bd s i hi
    have hb := tokenE_bd s (aheadE s i) ha.2
    by_cases hlt : aheadE s i < tokenE s (aheadE s i)
    · rw [rscan_go hi rfl rfl hlt] at ht
      rcases List.mem_cons.1 ht with rfl | ht
      · exact ha.2
      · exact ih _ hb.2 (by omega) t ht
    · rw [rscan_stop rfl hlt] at ht
      simp at ht
      subst ht
      by_cases hp : aheadE s i < s.size
      · simp only [hp, if_true]; exact ha.2
      · simp only [hp, if_false]; exact ha.2
/-- The reader as Parse makes it. -/
theorem reader_new (s : ByteArray) (hs : s.size ≤ 600) {w1 : World} {base g cap : Nat} (ho : w1.ownsRow base 50 3 (.slice (some ⟨g, 0, none⟩) (rscan s 0).length cap) (rscan s 0).length (rtoksCells (rscan s 0))) (hg : g < w1.heap.size) :
    RS w1.heap.size (.slice (some ⟨g, 0, none⟩) (rscan s 0).length cap) (rscan s 0) (w1.alloc (.cells #[.slice (some ⟨g, 0, none⟩) (rscan s 0).length cap, .int .i64 0, .int .i64 (-1)] 44 (0, 0))) ⟨0, -1⟩ := by
  have hl := scanL_len s 0 (Nat.zero_le _)
  have hr := (rel_scan s (s.size + 1) 0 (Nat.zero_le _) (by omega)).len
  refine ⟨heap_alloc_new _ _, ownsRow_base (ho.alloc _) (Nat.zero_le _), ⟨g, cap, rfl, hg⟩, by omega, rscan_pos s 0, ⟨by decide, by decide⟩, fun t ht => ?_⟩
  have := rscan_at s (s.size + 1) 0 (Nat.zero_le _) (by omega) t ht
  omega

theorem Tryd.infoRow1 : (Tryd.prog.info? 48).map (·.size) = some 3 := by kernel_rfl
set_option maxHeartbeats 400000 in
theorem leaf_any (k x : ByteArray) (p : Int) (w : World) :
    Calls Tryd.prog 16 #[.agg #[.string k, .int .i64 p, .string x]] w fun e w' => e = .returned (.agg #[.int .i64 0, .bool true, .string x]) ∧ w' = (w.alloc (.cells #[.string k, .int .i64 p, .string x] 50 (0, 0))).alloc (.cells #[.int .i64 0, .bool true, .string x] 48 (0, 0)) := by
  go_enter Tryd.func16, Tryd.ntmps16
  go_wp2_with fail
  refine bodyPost_ret (results_cell_row rfl _ _ (w.heap.size + 1) _ _ (0, 0) _ rfl (new2 _ _ _) Tryd.underlying48 rfl Tryd.infoRow1) rfl ?_
  exact ⟨rfl, rfl⟩

end Go.Proofs.YtdaneedflpfeaaaDoor

namespace Go.Proofs.YtdaneedflpfeaaaDoor
set_option maxRecDepth 100000
open Go.RowKit

theorem new3 (w : World) (o1 o2 o3 : Obj) : (((w.alloc o1).alloc o2).alloc o3).heap[w.heap.size + 2]? = some o3 := by
  have h := heap_alloc_new ((w.alloc o1).alloc o2) o3
  have e : ((w.alloc o1).alloc o2).heap.size = w.heap.size + 2 := by simp
  rw [e] at h; exact h
/-- The last token of a text that was read to its end. -/
theorem end_here {rt : List RTok} {toks : List Tok} {st : RSt} (R : Rel rt toks) (hk : st.k < rt.length) (hc : condR toks st (.is kEnd.data.toList) = true) : ∃ r, rt[st.k]? = some r ∧ r.whole = textT toks st.k := by
  obtain ⟨t, ht⟩ : ∃ t, toks[st.k]? = some t := ⟨toks[st.k]'(by rw [R.len]; exact hk), List.getElem?_eq_getElem _⟩
  obtain ⟨r, hr, _, _, hw, _⟩ := R.at_ st.k t ht
  have hkx : t.kind = kEnd := by
    simp only [condR, condA, condK, kindA, ht, Bool.and_eq_true, beq_iff_eq] at hc
    exact ByteArray.ext (Array.toList_inj.mp hc.2)
  exact ⟨r, hr, by rw [hw (by rw [hkx]; decide)]; simp [textT, ht]⟩
/-- Rows that lie too deep. -/
def deepR (l : List Rw) : Bool := l.any fun x => x.inner && decide (20 ≤ x.deep)
/-- What Parse answers. -/
inductive ROutR where
  | err (c p : Int) | ok (l : List Rw)
def PostR (w : World) (o : ROutR) (e : Ending) (w' : World) : Prop := Below w.heap.size w w' ∧ match o with
  | .err c p => e = .returned (.tuple #[.slice none 0 0, .int .i64 c, .int .i64 p])
  | .ok l => ∃ v, e = .returned (.tuple #[v, .int .i64 0, .int .i64 0]) ∧ w'.ownsRow w.heap.size 48 3 v l.length (rwsCells l)
def outR (toks : List Tok) (l1 : List Rw) (s1 : RSt) : ROutR :=
  if s1.bad < 0 then (if deepR (l1 ++ [⟨0, false, textT toks s1.k⟩]) then .err 3 0 else if 80 < l1.length + 2 then .err 4 0 else .ok (l1 ++ [⟨0, false, textT toks s1.k⟩])) else .err 2 s1.bad

set_option maxHeartbeats 6400000 in
theorem refParse_core (s : ByteArray) (w : World) (hG : Glob w) (hw2 : 2 ≤ w.heap.size) (hs : s.size ≤ 600) {l1 : List Rw} {s1 : RSt} {n : Nat} (h1 : Rg (scanL s 0) n .funcs ⟨0, -1⟩ = some (l1, s1)) (hf : fineR l1 = true) :
    Calls Tryd.prog 6 #[.string s] w fun e w' => PostR w (outR (scanL s 0) l1 s1) e w' := by
  have HT := hide (tokens_any s w hs hG hw2)
  have HR := hide (rel_scan s (s.size + 1) 0 (Nat.zero_le _) (by omega))
  have X1 := hide h1
  have hL := fine_len hf
  have XF := hide hf
  obtain ⟨i0, hi, hz0, hz1, hz2⟩ := info_parts Tryd.infoRow
  clear hG h1 hf
  have hs' : ¬ (600 : Int) < (s.size : Int) := by omega
  go_enter Tryd.func6, Tryd.ntmps6
  go_wp2_with fail
  refine (unhide HT).mono ?_
  rintro e w1 ⟨g0, cap0, rfl, ho, hb, hg⟩
  have HRS := hide (reader_new s hs ho hg)
  have HB1 := hide hb
  have hsz1 := hb.size
  clear ho hb HT
  go_wp2_with fail
  have H0 := hide (Acc.start (unhide HRS))
  clear HRS
  have IHH := hide (fun m => rmethods (b := w1.heap.size) (lv := .slice (some ⟨g0, 0, none⟩) (rscan s 0).length cap0) (unhide HR) m)
  generalize hW0 : w1.alloc (.cells #[.slice (some ⟨g0, 0, none⟩) (rscan s 0).length cap0, .int .i64 0, .int .i64 (-1)] 44 (0, 0)) = W0 at *
  have HBW : Hid (Below w.heap.size w W0) := by show Below _ _ _; rw [← hW0]; exact (unhide HB1).alloc hsz1 _
  have hszW : w.heap.size ≤ W0.heap.size := (unhide HBW).size
  clear hW0 HB1
  generalize hlv : Value.slice (some ⟨g0, 0, none⟩) (rscan s 0).length cap0 = lv at *
  generalize hbb0 : w1.heap.size = b at *
  generalize hrt : rscan s 0 = rt at *
  generalize htk : scanL s 0 = toks at *
  go_loopg [6] n (fun g x wr => ∃ sk lk rk, g ≤ n ∧ Acc W0 b lv rt wr sk x lk ∧ Hid (Rg toks g .funcs sk = some (rk, s1)) ∧ Hid (lk ++ rk = l1))
  case atStart => exact ⟨⟨0, -1⟩, [], l1, Nat.le_refl _, unhide H0, unhide X1, rfl⟩
  case round =>
    obtain ⟨sk, lk, rk, hg, hA, XE, XQ⟩ := hrel
    have HA := hide hA
    obtain ⟨d0, d1, c2, df⟩ := hA.rs.cells
    clear hA
    cases gk with
    | zero => cases (unhide XE)
    | succ g =>
    rcases RI_ite (show RI toks (Rg toks g) (.ite (.go [101, 110, 100]) (.seq (.call .function) (.call .funcs)) .skip) sk = some (rk, s1) from unhide XE) with ⟨hck, hE⟩ | ⟨hck, hE⟩
    · obtain ⟨hb, hq⟩ := go_yes hck
      have hbb : decide (sk.bad < 0) = true := by simp [hb]
      obtain ⟨a1, q1, b1, e1, e2, rfl⟩ := RI_seq hE
      have Y1 : Hid (Rg toks g .function sk = some (a1, q1)) := e1
      have Y2 : Hid (Rg toks g .funcs q1 = some (b1, s1)) := e2
      have hlen := congrArg List.length (unhide XQ)
      simp only [List.length_append] at hlen
      clear hE e1 e2 XE
      go_wp2_with fail
      refine (is_acc (unhide HA) [kEnd] false (by decide) ((is_one (unhide HR) (unhide HA).rs.att _ (by decide)).trans hq)).mono ?_
      rintro e w1 ⟨rfl, a1⟩
      have H1 := hide a1
      clear a1
      go_wp2_with fail
      refine Calls.mono (call_acc (unhide IHH g) (unhide H1) .function rfl (unhide Y1)) ?_
      rintro e w2 ⟨u2, rfl, a2, k2⟩
      have H2 := hide a2
      have K2 := hide k2
      clear a2 k2
      go_wp2_with (first | (at_builtin; refine append_acc (unhide H2) (unhide K2) _ _ rfl rfl rfl rfl (by (try simp only [List.length_append]); omega) ?_) | fail)
      intro v3 w3 a3
      have H3 := hide a3
      clear a3
      go_wp2_with fail
      go_roundg g
      case measure => exact Nat.lt_succ_self g
      case rel => exact ⟨q1, _, b1, by omega, unhide H3, unhide Y2, by show _ = _; rw [← unhide XQ]; simp only [List.append_assoc]⟩
    · obtain ⟨rfl, rfl⟩ := RI_skip hE
      have hq : lk = l1 := by rw [← unhide XQ, List.append_nil]
      subst hq
      clear hE XE XQ
      rcases go_no hck with hb | ⟨hb, hq⟩
      · have hbb : decide (s1.bad < 0) = false := by simp [hb]
        have hbc : decide (0 ≤ s1.bad) = true := by simp; omega
        go_wp2_with fail
        go_quiet (fail)
        go_wp2_with fail
        go_ret3
        have hout : outR (scanL s 0) lk s1 = .err 2 s1.bad := by unfold outR; rw [if_neg (by omega)]
        rw [hout]
        exact ⟨((unhide HBW).grown (unhide HA).gr hszW (fun k hk => by cases hk; omega)).trans (below_drewN' _ _ _), rfl⟩
      · have hbb : decide (s1.bad < 0) = true := by simp [hb]
        have hbc : decide (0 ≤ s1.bad) = false := by simp; omega
        go_wp2_with fail
        refine (is_acc (unhide HA) [kEnd] true (by decide) ((is_one (unhide HR) (unhide HA).rs.att _ (by decide)).trans hq)).mono ?_
        rintro e w4 ⟨rfl, a4⟩
        have H4 := hide a4
        clear a4
        obtain ⟨f0, f1, f2, f3⟩ := (unhide H4).rs.cells
        obtain ⟨rr, hrr, hwh⟩ := end_here (unhide HR) (unhide H4).rs.att hq
        subst hlv
        obtain ⟨t0, t1, t2⟩ := (unhide H4).rs.tokCell rfl hrr
        have hatt := (unhide H4).rs.att
        have hfew := (unhide H4).rs.few
        have hlt' : (s1.k : Int) < (rt.length : Int) := by omega
        have HO : Hid (World.ownsRow w4 W0.heap.size 48 3 _ lk.length (rwsCells lk)) := (unhide H4).own
        have hszk := (unhide H4).size
        have c9 := rwsCells_len lk
        have HWH := hide hwh
        clear hck hq hrr hwh
        go_wp2_with fail
        go_region_law
          (first
            | (refine step_append_lies _ rfl (.tmp 40) (.tmp 52) 25 rfl W0.heap.size 48 i0 (.agg #[.int .i64 0, .bool false, .string ⟨#[]⟩]) 3 32 Tryd.underlying25 hi hz0 hz1 hz2 rfl (by decide) u6 lk.length (rwsCells lk) (by simp [Act.eval]) (by exact ((((unhide HO).alloc _).alloc _).alloc _).drew) ⟨w4.heap.size + 2, 0, none⟩ 1 1 [.int .i64 0, .bool true, .string rr.whole] (by simp [Act.eval]) rfl (rw_news _ _ _ (new3 _ _ _ _)) (rw_one _ _ _) (by decide) (by unfold maxLen; omega) (by omega) (by simp; omega) _ rfl ?_;
               intro g9 cap9 w9 hown9 hgrow9 _ _;
               have H9 := hide ((((((unhide H4).alloc _).alloc _).alloc _).none (grown_drew _ none)).app (m := lk ++ [⟨0, false, rr.whole⟩]) (by show World.ownsRow _ _ _ _ _ _ _; rw [List.length_append, rwsCells_append, rwsCells_one]; exact hown9) hgrow9);
               clear hown9 hgrow9)
            | (go_simp; refine (leaf_any _ _ _ _).mono ?_; rintro e w8 ⟨rfl, rfl⟩))
        all_goals go_wp2_with fail
        all_goals
          have XD : Hid (outR (scanL s 0) lk s1 = if deepR (lk ++ [⟨0, false, rr.whole⟩]) then .err 3 0 else if 80 < lk.length + 2 then .err 4 0 else .ok (lk ++ [⟨0, false, rr.whole⟩])) := by
            show outR _ _ _ = _
            unfold outR
            rw [if_pos (by omega), htk, ← unhide HWH]
          have hFl : (lk ++ [(⟨0, false, rr.whole⟩ : Rw)]).length = lk.length + 1 := by simp
          have hdF : ∀ x ∈ lk ++ [(⟨0, false, rr.whole⟩ : Rw)], x.deep ≤ 99999 := by
            have hfx := unhide XF
            simp only [fineR, Bool.and_eq_true, decide_eq_true_eq, List.all_eq_true] at hfx
            intro x hx
            rcases List.mem_append.1 hx with hx | hx
            · exact hfx.2 x hx
            · simp at hx; subst hx; exact Nat.zero_le _
          have HDF := hide hdF
          clear hdF HO HWH
          generalize hFF : lk ++ [(⟨0, false, rr.whole⟩ : Rw)] = F at *
          go_loopw [8, 56] (fun _ c wr => ∃ j : Nat, j ≤ F.length ∧ c = .int .i64 j ∧ Hid (deepR (F.take j) = false) ∧ Acc W0 b (.slice (some ⟨g0, 0, none⟩) rt.length cap0) rt wr s1 (.slice (some ⟨g9, 0, none⟩) (lk.length + 1) cap9) F) (fun _ c _ => F.length - (intOf c).toNat)
          case atStart => exact ⟨0, by omega, rfl, rfl, unhide H9⟩
          case round =>
            obtain ⟨j, hj, rfl, HJ, hA2⟩ := hrel
            have HA2 := hide hA2
            have hB2 : Below w.heap.size w wr := (unhide HBW).grown hA2.gr hszW (fun k hk => by cases hk; omega)
            have HB2 := hide hB2
            have hsz2 := hB2.size
            clear hA2 hB2
            by_cases hjl : j < F.length
            · obtain ⟨r0, r1, r2⟩ := rw_cells (cap := cap9) (by rw [hFl]; have := (unhide HA2).own; unfold Held at this; rw [hFl] at this; exact this) j hjl
              have hdj := unhide HDF _ (List.getElem_mem hjl)
              have HT2 : Hid (F.take (j + 1) = F.take j ++ [F[j]]) := List.take_succ_eq_append_getElem hjl
              have HMem := hide (List.getElem_mem hjl)
              have hjl' : (j : Int) < (lk.length : Int) + 1 := by omega
              generalize F[j]'hjl = r at *
              cases hin : r.inner with
              | false =>
                have HJ2 : Hid (deepR (F.take (j + 1)) = false) := by show _ = false; rw [unhide HT2]; have := unhide HJ; unfold deepR at this ⊢; rw [List.any_append, this]; simp [hin]
                rw [hin] at r1
                go_wp2_with fail
                go_roundw
                case rel => exact ⟨j + 1, by omega, by go_num, HJ2, (unhide HA2).alloc _⟩
                case measure => simp [intOf]; omega
              | true =>
                rw [hin] at r1
                by_cases hd : 20 ≤ r.deep
                · have hdb : decide ((20 : Int) ≤ (r.deep : Int)) = true := by simp; omega
                  have XO : Hid (outR (scanL s 0) lk s1 = .err 3 0) := by
                    show outR _ _ _ = _
                    have hd3 : deepR F = true := by unfold deepR; exact List.any_eq_true.2 ⟨r, unhide HMem, by simp [hin, hd]⟩
                    rw [unhide XD, hd3]; rfl
                  go_wp2_with fail
                  go_ret3
                  first | rw [unhide XO] | rw [← htk, unhide XO]
                  exact ⟨(unhide HB2).alloc hsz2 _, rfl⟩
                · have hdb : decide ((20 : Int) ≤ (r.deep : Int)) = false := by simp; omega
                  have HJ2 : Hid (deepR (F.take (j + 1)) = false) := by show _ = false; rw [unhide HT2]; have := unhide HJ; unfold deepR at this ⊢; rw [List.any_append, this]; simp [hd]
                  go_wp2_with fail
                  go_roundw
                  case rel => exact ⟨j + 1, by omega, by go_num, HJ2, (unhide HA2).alloc _⟩
                  case measure => simp [intOf]; omega
            · have hje : j = F.length := by omega
              have hnd : deepR F = false := by have := unhide HJ; rwa [List.take_of_length_le (by omega)] at this
              have hjl' : ¬ (j : Int) < (lk.length : Int) + 1 := by omega
              by_cases h80 : 80 < lk.length + 2
              · have h80b : decide ((80 : Int) < (lk.length : Int) + 1 + 1) = true := by simp; omega
                have XO : Hid (outR (scanL s 0) lk s1 = .err 4 0) := by show outR _ _ _ = _; rw [unhide XD, hnd, if_pos h80]; rfl
                go_wp2_with fail
                go_ret3
                first | rw [unhide XO] | rw [← htk, unhide XO]
                exact ⟨unhide HB2, rfl⟩
              · have h80b : decide ((80 : Int) < (lk.length : Int) + 1 + 1) = false := by simp; omega
                have XO : Hid (outR (scanL s 0) lk s1 = .ok F) := by show outR _ _ _ = _; rw [unhide XD, hnd, if_neg h80]; rfl
                go_wp2_with fail
                go_ret3
                first | rw [unhide XO] | rw [← htk, unhide XO]
                exact ⟨unhide HB2, _, rfl, ownsRow_base (unhide HA2).own hszW⟩

end Go.Proofs.YtdaneedflpfeaaaDoor

namespace Go.Proofs.YtdaneedflpfeaaaDoor
set_option maxRecDepth 100000
open Go.RowKit

/-- Behind the functions stands the end. -/
theorem funcs_end (toks : List Tok) (n : Nat) : ∀ k l j, Ag toks n .funcs k = some (.ok l j) → kindA toks j = kEnd := by
  induction n with
  | zero => intro k l j h; cases h
  | succ n ih =>
    intro k l j h
    have h' : Ab toks (Ag toks n) (.ite (.go [101, 110, 100]) (.seq (.call .function) (.call .funcs)) .skip) k = some (.ok l j) := h
    simp only [Ab] at h'
    split at h'
    · split at h'
      · cases h'
      · cases h'
      · split at h'
        · cases h'
        · cases h'
        · rename_i h2
          cases h'
          exact ih _ _ _ h2
    · rename_i hc
      cases h'
      simp only [condA, condK, Bool.not_eq_true', Bool.not_eq_false, beq_iff_eq] at hc
      exact ByteArray.ext (Array.toList_inj.mp hc)
theorem end_tok {toks : List Tok} {k : Nat} (h : kindA toks k = kEnd) : ∃ t, toks[k]? = some t ∧ t.kind = kEnd := by
  unfold kindA at h
  split at h
  · cases (show kNone ≠ kEnd from by decide) h
  · rename_i t ht; exact ⟨t, ht, h⟩

theorem innerD_step (l : List Nd) : ∀ d : Int, (20 < l.foldl innerStep d) ↔ (20 < d ∨ ∃ x ∈ l, x.inner = true ∧ 20 < x.depth) := by
  induction l with
  | nil => intro d; simp
  | cons x l ih =>
    intro d
    rw [List.foldl_cons, ih]
    simp only [innerStep, List.mem_cons, exists_eq_or_imp]
    split
    · rename_i h
      constructor
      · rintro (h1 | h1)
        · exact .inr (.inl ⟨h.1, h1⟩)
        · exact .inr (.inr h1)
      · rintro (h1 | ⟨_, h1⟩ | h1)
        · exact .inl (by omega)
        · exact .inl h1
        · exact .inr h1
    · rename_i h
      constructor
      · rintro (h1 | h1)
        · exact .inl h1
        · exact .inr (.inr h1)
      · rintro (h1 | ⟨h2, h1⟩ | h1)
        · exact .inl h1
        · exact .inl (by have : ¬ d < x.depth := fun hd => h ⟨h2, hd⟩; omega)
        · exact .inr h1
theorem deep_inner (l : List Rw) : deepR l = true ↔ 20 < innerD ((nodeR kProgram l).map (toNd 0)) := by
  rw [map_node, innerD, innerD_step]
  simp only [deepR, List.any_eq_true, Bool.and_eq_true, decide_eq_true_eq, List.mem_cons, List.mem_map]
  constructor
  · rintro ⟨x, hx, hi, hd⟩
    exact .inr ⟨_, .inr ⟨x, hx, rfl⟩, hi, by show (20 : Int) < 0 + 1 + (x.deep : Int); omega⟩
  · rintro (h | ⟨y, rfl | ⟨x, hx, rfl⟩, hi, hd⟩)
    · omega
    · simp at hd
    · refine ⟨x, hx, hi, ?_⟩
      have : (20 : Int) < 0 + 1 + (x.deep : Int) := hd
      omega

/-- Our answer against the document's. -/
def Same : ROut → ROutR → Prop
  | .err c p, .err c' p' => c = c' ∧ p = p'
  | .ok n, .ok l => n = (nodeR kProgram l).map (toNd 0) ∧ RC 0 l ∧ 1 ≤ l.length ∧ l.length ≤ 79 ∧ ∀ x ∈ l, x.deep ≤ 1000 ∧ x.text.size ≤ 1000
  | _, _ => False
theorem placeTA (toks : List Tok) (j : Nat) : placeT toks j = (placeA toks j : Int) := by unfold placeT placeA; cases toks[j]? <;> rfl

theorem kinds_small2 (g : G) : ∀ kd ∈ kindsOf (body g), kd.size ≤ 1000 := by
  have h : (kindsOf (body g)).all (fun kd => decide (kd.size ≤ 1000)) = true := by cases g <;> decide
  intro kd hk
  exact of_decide_eq_true (List.all_eq_true.1 h kd hk)
theorem same_out (s : ByteArray) (hs : s.size ≤ 600) : ∃ l1 s1 n, Rg (scanL s 0) n .funcs ⟨0, -1⟩ = some (l1, s1) ∧ fineR l1 = true ∧ Same (outT s) (outR (scanL s 0) l1 s1) := by
  have hlen := scanL_len s 0 (Nat.zero_le _)
  have htx := scanL_text s 0
  unfold outT
  rw [if_neg (by omega)]
  generalize scanL s 0 = toks at *
  obtain ⟨res, hres⟩ := totG toks 7299 .funcs 0 (Nat.zero_le _) (fun h => by cases h) (by show 12 * (toks.length - 0) + 2 ≤ 7299; omega)
  obtain ⟨l, s', e, d, m⟩ := simRG toks (by omega) 7299 (by omega) .funcs 0 res hres ⟨0, -1⟩ rfl (Nat.zero_le _) (by show (-1 : Int) < 0; omega)
  cases res with
  | fail j =>
    obtain ⟨rfl, hl⟩ := m
    have hp : parseT toks = some (.fail j) := by
      show Ab toks (Ag toks 7299) (.node kProgram (.seq (.call .funcs) (.need kEnd))) 0 = _
      simp only [Ab, hres]
    refine ⟨l, _, _, e, fine_of d (by omega), ?_⟩
    rw [hp]
    have : outR toks l ⟨j, placeT toks j⟩ = .err 2 (placeT toks j) := by unfold outR; rw [if_neg (placeT_ok toks j)]
    rw [this]
    exact ⟨rfl, (placeTA toks j).symm⟩
  | ok l1 k =>
    obtain ⟨rfl, rfl⟩ := m
    obtain ⟨t, ht, htk⟩ := end_tok (funcs_end toks _ _ _ _ hres)
    have fa := rowsG _ _ _ _ _ _ hres
    have hk := fa.le (Nat.zero_le _)
    have hfew := fa.few
    have hsl : slackG .funcs = 0 := rfl
    rw [hsl] at hfew
    have hp : parseT toks = some (.ok (nodeR kProgram (l ++ [⟨0, false, t.text⟩])) (k + 1)) := by
      show Ab toks (Ag toks 7299) (.node kProgram (.seq (.call .funcs) (.need kEnd))) 0 = _
      simp only [Ab, hres, ht, htk, if_true]
    refine ⟨l, _, _, e, fine_of d (by omega), ?_⟩
    rw [hp]
    have hlen2 : (nodeR kProgram (l ++ [⟨0, false, t.text⟩])).length = l.length + 2 := by simp [nodeR]
    have htt : textT toks k = t.text := by simp [textT, ht]
    simp only [outR, htt, hlen2]
    rw [if_pos (show (-1 : Int) < 0 by omega)]
    by_cases hd : deepR (l ++ [⟨0, false, t.text⟩]) = true
    · rw [if_pos hd, if_pos ((deep_inner _).1 hd)]; exact ⟨rfl, rfl⟩
    rw [if_neg hd, if_neg (fun h => hd ((deep_inner _).2 h))]
    by_cases hb : 80 < l.length + 2
    · rw [if_pos hb, if_pos hb]; exact ⟨rfl, rfl⟩
    rw [if_neg hb, if_neg hb]
    have sh := (shG toks _ _ _ _ _ hres).rc
    have hq := propG toks (fun x => x.text.size ≤ 1000) (fun x h => h) (fun t ht => by have := htx t ht; show t.text.size ≤ _; omega) kinds_small2 _ _ _ _ _ hres
    refine ⟨rfl, sh.append ⟨Nat.le_refl _, trivial⟩, by rw [List.length_append]; simp, by rw [List.length_append]; simp; omega, fun x hx => ?_⟩
    rcases List.mem_append.1 hx with hx | hx
    · exact ⟨by have := fa.deep x hx; omega, hq x hx⟩
    · simp at hx; subst hx
      exact ⟨Nat.zero_le _, by have := htx t (List.mem_of_getElem? ht); show t.text.size ≤ 1000; omega⟩

set_option maxHeartbeats 800000 in
theorem refParse_long (s : ByteArray) (w : World) (hs : 600 < s.size) : Calls Tryd.prog 6 #[.string s] w fun e w' => PostR w (.err 1 0) e w' := by
  have hs' : (600 : Int) < (s.size : Int) := by omega
  go_enter Tryd.func6, Tryd.ntmps6
  go_wp2_with fail
  go_ret3
  exact ⟨Below.refl _ _, rfl⟩
/-- Parse, of every text: as our own read. -/
theorem refParse_any (s : ByteArray) (w : World) (hG : Glob w) (hw2 : 2 ≤ w.heap.size) : Calls Tryd.prog 6 #[.string s] w fun e w' => ∃ o, Same (outT s) o ∧ PostR w o e w' := by
  by_cases hs : 600 < s.size
  · refine (refParse_long s w hs).mono ?_
    intro e w' h
    refine ⟨_, ?_, h⟩
    unfold outT
    rw [if_pos hs]
    exact ⟨rfl, rfl⟩
  · obtain ⟨l1, s1, n, h1, hf, hsm⟩ := same_out s (by omega)
    exact (refParse_core s w hG hw2 (by omega) h1 hf).mono fun e w' h => ⟨_, hsm, h⟩

end Go.Proofs.YtdaneedflpfeaaaDoor
