import Derived.Test.YtdaneedflpfeaaaKeepB
import Derived.Test.YtdaneedflpfeaaaKeepD
import Derived.Test.YtdaneedflpfeaaaPatV
import Derived.ProofKit
import Derived.OpenShut
import Derived.ShutString
import Derived.JoinedCond
namespace Go.Proofs.Ytdaneedflpfeaaa
set_option maxRecDepth 100000
open Go.RowKit

/-- How many lines. -/
def cntL (l : List UInt8) : Nat := l.count 10
theorem line_facts (d : ByteArray) (a : Nat) : (∀ j (hj : j < d.size), a ≤ j → j < runE noLf d a → d[j] ≠ 10) ∧ (∀ h : runE noLf d a < d.size, a ≤ runE noLf d a → d[runE noLf d a] = 10) := by
  induction a using runE.induct noLf d with
  | case1 a h ih =>
    rw [runE, dif_pos h]
    refine ⟨fun j hj h1 h2 => ?_, fun h1 h2 => ?_⟩
    · rcases Nat.lt_or_ge a j with q | q
      · exact ih.1 j hj q h2
      · have : j = a := by omega
        subst this
        intro e
        have := h.2
        rw [bt_in hj, e] at this
        exact absurd this (by decide)
    · exact ih.2 h1 (lineE_ge d (a + 1) (by omega)).1
  | case2 a h =>
    rw [runE, dif_neg h]
    refine ⟨fun j hj h1 h2 => by omega, fun h1 _ => ?_⟩
    have hn : ¬ noLf (bt d a) = true := fun q => h ⟨h1, q⟩
    rw [bt_in h1] at hn
    simp only [noLf, bne_iff_ne, ne_eq, Decidable.not_not] at hn
    exact UInt8.toNat_inj.1 (by show _ = 10; omega)
theorem drop_step (d : ByteArray) (a : Nat) (h : a < d.size) : d.data.toList.drop a = d[a] :: d.data.toList.drop (a + 1) := by
  have hl : a < d.data.toList.length := h
  rw [List.drop_eq_getElem_cons hl]; rfl
/-- A line's end is one. -/
theorem cnt_line (d : ByteArray) : ∀ (n a : Nat), runE noLf d a - a ≤ n → a ≤ runE noLf d a → runE noLf d a < d.size → cntL (d.data.toList.drop a) = 1 + cntL (d.data.toList.drop (runE noLf d a + 1)) := by
  intro n
  induction n with
  | zero =>
    intro a h1 h2 h3
    have e : runE noLf d a = a := by omega
    have h10 := (line_facts d a).2 h3 h2
    rw [e] at h3
    rw [drop_step d a h3, e]
    have : d[a] = 10 := by
      have h4 := h10
      simp only [e] at h4
      exact h4
    rw [cntL, this, List.count_cons_self, cntL]; omega
  | succ n ih =>
    intro a h1 h2 h3
    by_cases e : runE noLf d a = a
    · have h10 := (line_facts d a).2 h3 h2
      rw [e] at h3
      rw [drop_step d a h3, e]
      have : d[a] = 10 := by
        have h4 := h10
        simp only [e] at h4
        exact h4
      rw [cntL, this, List.count_cons_self, cntL]; omega
    · have hlt : a < d.size := by omega
      have hne := (line_facts d a).1 a hlt (Nat.le_refl _) (by omega)
      have hrec : runE noLf d a = runE noLf d (a + 1) := by
        refine runE_yes hlt ?_
        rw [bt_in hlt]
        simp only [noLf, bne_iff_ne, ne_eq]
        intro q
        exact hne (UInt8.toNat_inj.1 (by show _ = 10; omega))
      rw [drop_step d a hlt, cntL, List.count_cons_of_ne hne, hrec]
      rw [hrec] at h1 h2 h3 e
      exact ih (a + 1) (by omega) (by have := (lineE_ge d (a + 1) (by omega)).1; exact this) h3
theorem scr_dist (d : ByteArray) (l : List Nd) (a line : Nat) (hc : Ch l) (hl : l ≠ []) : (∀ L, scrN d l a line = .ok L → Ch L ∧ L ≠ [] ∧ Dist.dl (foN l) (foN L) ≤ cntL (d.data.toList.drop a)) ∧ (∀ k, scrN d l a line = .bad k → line ≤ k ∧ k ≤ line + cntL (d.data.toList.drop a)) := by
  induction l, a, line using scrN.induct d with
  | case1 l a line h1 h2 h3 =>
    rw [scrN, dif_pos h1, dif_pos h2, h3]
    exact ⟨fun L h => (by cases h), fun k h => (by cases h; omega)⟩
  | case2 l a line h1 h2 st h3 h4 =>
    rw [scrN, dif_pos h1, dif_pos h2, h3]
    simp only [h4]
    exact ⟨fun L h => (by cases h), fun k h => (by cases h; omega)⟩
  | case3 l a line h1 h2 st h3 m h4 ih =>
    rw [scrN, dif_pos h1, dif_pos h2, h3]
    simp only [h4]
    obtain ⟨c1, c2, c3⟩ := step_dist hc h4
    have hge := (lineE_ge d a (by omega)).1
    have hcn := cnt_line d _ a (Nat.le_refl _) hge h2
    obtain ⟨i1, i2⟩ := ih c1 c2
    refine ⟨fun L h => ?_, fun k h => ?_⟩
    · obtain ⟨a1, a2, a3⟩ := i1 L h
      have := Dist.dl_tri (foN l) (foN m) (foN L)
      exact ⟨a1, a2, by omega⟩
    · have := i2 k h
      omega
  | case4 l a line h1 h2 =>
    rw [scrN, dif_pos h1, dif_neg h2]
    exact ⟨fun L h => (by cases h), fun k h => (by cases h; omega)⟩
  | case5 l a line h1 =>
    rw [scrN, dif_neg h1]
    refine ⟨fun L h => ?_, fun k h => (by cases h)⟩
    cases h
    refine ⟨hc, hl, ?_⟩
    have := (Dist.dl_zero (foN l) (foN l)).2 rfl
    omega
theorem foN_rows (l : List Rw) : foN ((nodeR kProgram l).map (toNd 0)) = foW l := by
  rw [← fo_below l]
  unfold foN Dist.sg
  rw [List.take_of_length_le (by rw [List.length_map, nodeR_size]; exact Nat.le_refl _)]
theorem ch_rows {l : List Rw} (h : RC 0 l) : Ch ((nodeR kProgram l).map (toNd 0)) := by
  have key : ∀ (l : List Rw) (o : Nat) (x : Nd), RC o l → (o : Int) ≤ x.depth → Ch (x :: l.map (toNd 1)) := by
    intro l
    induction l with
    | nil => intro o x _ _; trivial
    | cons r l ih =>
      intro o x h hx
      refine ⟨by have := h.1; show 1 + (r.deep : Int) ≤ x.depth + 1; omega, ?_⟩
      refine ih _ (toNd 1 r) h.2 ?_
      show ((if r.inner then r.deep + 1 else r.deep : Nat) : Int) ≤ 1 + (r.deep : Int)
      split <;> omega
  rw [map_node]
  exact key l 0 ⟨true, kProgram, 0⟩ h (Int.le_refl _)
/-- What a script makes of a program is as near as it has lines. -/
theorem script_near {a : ByteArray} {l m : List Rw} {d : ByteArray} (ha : Prg a l) (h : scrN d ((nodeR kProgram l).map (toNd 0)) 0 1 = .ok ((nodeR kProgram m).map (toNd 0))) : dlR l m ≤ cntL d.data.toList := by
  have := ((scr_dist d _ 0 1 (ch_rows ha.rc) (by simp [nodeR])).1 _ h).2.2
  rw [foN_rows, foN_rows, List.drop_zero] at this
  exact this
theorem Try.infoStrK : (Try.prog.info? 9).map (fun i => (i.zero, i.size, i.bytes)) = some (some (.string ⟨#[]⟩), 1, 16) := by kernel_rfl
theorem take_snocL (s : ByteArray) (k : Nat) (h : k < s.size) : s.data.toList.take (k + 1) = s.data.toList.take k ++ [s[k]] := by
  rw [List.take_succ_eq_append_getElem (by simpa using h)]; rfl
theorem cnt_le (l : List UInt8) : cntL l ≤ l.length := List.count_le_length

set_option maxHeartbeats 1600000 in
theorem keepLines_any (s : ByteArray) (w : World) (hs : s.size ≤ 1100000) :
    Calls Try.prog 15 #[.string s] w fun e w' => Below w.heap.size w w' ∧ ∃ p c, e = .returned (.slice p (cntL s.data.toList) c) := by
  obtain ⟨i0, hi, hz0, hz1, hz2⟩ := info_parts Try.infoStrK
  go_enter Try.func15, Try.ntmps15
  go_wp2_with fail
  go_loopw [3, 4, 5] (fun v f i wr => ∃ (k n : Nat) (L : List Value), k ≤ s.size ∧ n ≤ k ∧ i = .int .i64 (k : Int) ∧ f = .int .i64 (n : Int) ∧ wr.ownsRow w.heap.size 9 1 v (cntL (s.data.toList.take k)) L ∧ Below w.heap.size w wr) (fun _ _ i _ => s.size - (intOf i).toNat)
  case atStart => exact ⟨0, 0, [], Nat.zero_le _, Nat.le_refl _, rfl, rfl, World.ownsRow_nil _ _ _ _, Below.refl _ _⟩
  case round =>
    obtain ⟨k, n, L, hk, hn, rfl, rfl, hown, hB⟩ := hrel
    have HO := hide hown
    have HB := hide hB
    have hsz := hB.size
    have hcl : cntL (s.data.toList.take k) ≤ 1100000 := by
      have := cnt_le (s.data.toList.take k)
      rw [List.length_take] at this
      omega
    clear hown hB
    by_cases hlt : k < s.size
    · have hsn := take_snocL s k hlt
      by_cases h10 : s[k] = 10
      · have h10' : ((s[k].toNat : Int) == 10) = true := by rw [h10]; rfl
        have HCN : Hid (cntL (s.data.toList.take (k + 1)) = cntL (s.data.toList.take k) + 1) := by
          show _ = _
          rw [hsn, h10, cntL, List.count_append]; rfl
        clear hsn h10
        generalize cntL (s.data.toList.take k) = c at *
        go_wp2_with (first
          | (at_builtin; refine wpList_append_lies _ rfl (.tmp 16) (.tmp 21) 32 rfl w.heap.size 9 i0 (.string ⟨#[]⟩) 1 16 Try.underlying32 hi hz0 hz1 hz2 rfl (by decide) _ c L rfl ((unhide HO).alloc _) ⟨wr.heap.size, 0, none⟩ 1 1 [.string (s.extract n k)] rfl rfl (news_of (heap_alloc_new _ _)) (by intro u hu; simp at hu; subst hu; rfl) (by decide) (by unfold maxLen; omega) (by omega) (by simp; omega) _ rfl ?_)
          | fail)
        intro g cap w2 hown2 hgrow _ hlt2
        have HB2 : Hid (Below w.heap.size w w2) := ((unhide HB).alloc hsz _).grown hgrow (by simp; omega) (fun j hj => ((unhide HO).lt j hj).1)
        have HO2 := hide hown2
        clear hown2 hgrow HO HB
        go_wp2_with fail
        go_roundw
        case rel => exact ⟨k + 1, k + 1, _, by omega, by omega, by go_num, by go_num, by rw [unhide HCN]; exact unhide HO2, unhide HB2⟩
        case measure => simp [intOf]; omega
      · have h10' : ((s[k].toNat : Int) == 10) = false := u8_ne h10
        have HCN : Hid (cntL (s.data.toList.take (k + 1)) = cntL (s.data.toList.take k)) := by
          show _ = _
          rw [hsn, cntL, List.count_append, List.count_singleton, if_neg (by simpa using h10)]; rfl
        clear hsn h10
        generalize cntL (s.data.toList.take k) = c at *
        go_wp2_with fail
        go_roundw
        case rel => exact ⟨k + 1, n, L, by omega, by omega, by go_num, rfl, by rw [unhide HCN]; exact unhide HO, unhide HB⟩
        case measure => simp [intOf]; omega
    · have hkl : k = s.size := by omega
      have hall : s.data.toList.take k = s.data.toList := List.take_of_length_le (by show s.size ≤ k; omega)
      rw [hall] at HO
      clear hkl hall hcl
      have hsh : ∃ p c', u3 = .slice p (cntL s.data.toList) c' := by
        rcases (unhide HO).2 with ⟨h0, h1⟩ | ⟨g, cap, cur, h0, _⟩
        · exact ⟨none, 0, by rw [h0, h1]⟩
        · exact ⟨_, _, h0⟩
      obtain ⟨p, c', rfl⟩ := hsh
      go_wp2_with fail
      go_ret
      exact ⟨unhide HB, p, c', rfl⟩

theorem leafB_text {s : ByteArray} {l : List Rw} (h : Prg s l) : mk (leafB ((nodeR kProgram l).map (toNd 0))) = s := by
  have e : leafB ((nodeR kProgram l).map (toNd 0)) = s.data.toList := by
    rw [← text_leaves h.out, ← leafN_lab]; rfl
  rw [e]; rfl
theorem patch_none {a : ByteArray} {l : List Rw} (h : Prg a l) {s : ByteArray} {c p : Int} (ho : PatchOut a ⟨#[]⟩ s c p) : s = a ∧ c = 0 := by
  have hscr : scrN ⟨#[]⟩ ((nodeR kProgram l).map (toNd 0)) 0 1 = .ok ((nodeR kProgram l).map (toNd 0)) := by rw [scrN, dif_neg (by decide)]
  cases ho with
  | err c p h' => rw [h.out] at h'; cases h'
  | long n h' hd => exact absurd hd (by decide)
  | bad n k h' hd hr => rw [h.out] at h'; cases h'; rw [hscr] at hr; cases hr
  | none n L h' hd hr ht =>
    rw [h.out] at h'; cases h'; rw [hscr] at hr; cases hr
    rw [leafB_text h] at ht
    exact absurd h.out ht
  | ok n L h' hd hr ht =>
    rw [h.out] at h'; cases h'; rw [hscr] at hr; cases hr
    exact ⟨leafB_text h, rfl⟩

set_option maxHeartbeats 3200000 in
theorem rival_any (a d : ByteArray) (w : World) (hd : d.size ≤ 1100000) : Calls Try.prog 5 #[.string a, .string d] w fun e w' => e = .returned (.bool true) ∧ Below w.heap.size w w' := by
  have HAL := hide (alive_any w)
  have HP : Hid (∀ s w1, Calls Try.prog 9 #[.string s] w1 fun e w' => e = .returned (.bool (isOk (outT s))) ∧ Below w1.heap.size w1 w') := fun s w1 => program_any s w1
  have HD : Hid (∀ s t w1, Calls Try.prog 13 #[.string s, .string t] w1 fun e w' => e = .returned (.tuple #[.int .i64 (distT s t).1, .int .i64 (distT s t).2]) ∧ Below w1.heap.size w1 w') := fun s t w1 => dist_any s t w1
  have HPA : Hid (∀ d' w1, Calls Try.prog 14 #[.string a, .string d'] w1 fun e w' => Below w1.heap.size w1 w' ∧ ∃ s c p, e = .returned (.tuple #[.string s, .int .i64 c, .int .i64 p]) ∧ PatchOut a d' s c p) := fun d' w1 => patch_any a d' w1
  have HL : Hid (∀ w1, Calls Try.prog 15 #[.string d] w1 fun e w' => Below w1.heap.size w1 w' ∧ ∃ p c, e = .returned (.slice p (cntL d.data.toList) c)) := fun w1 => keepLines_any d w1 hd
  have hcd : cntL d.data.toList ≤ 1100000 := by have := cnt_le d.data.toList; have e : d.data.toList.length = d.size := rfl; omega
  -- what stands behind the second Patch
  have HREST : Hid (∀ (s : ByteArray) (c p : Int), PatchOut a d s c p → (c ≠ 0 ∧ s = ⟨#[]⟩ ∧ 0 ≤ p ∧ p ≤ cntL d.data.toList + 1 ∧ ((c == 5) = decide (0 < p))) ∨ (c = 0 ∧ ∃ l m, Prg a l ∧ Prg s m ∧ dlR l m ≤ cntL d.data.toList)) := fun s c p ho => by
    cases ho with
    | err c p h => exact .inl ⟨(outT_ne h).1, rfl, Int.le_refl _, by omega, by have := (outT_ne h).2.1; rw [beq_eq_false_iff_ne.2 (by omega)]; rfl⟩
    | long n h hd => exact .inl ⟨by decide, rfl, by decide, by omega, rfl⟩
    | bad n k h hd hr =>
      obtain ⟨l, hl⟩ := prg_of h
      have e := hl.out.symm.trans h
      injection e with e
      rw [← e] at hr
      have := (scr_dist d _ 0 1 (ch_rows hl.rc) (by simp [nodeR])).2 k hr
      rw [List.drop_zero] at this
      exact .inl ⟨by decide, rfl, by omega, by omega, by rw [decide_eq_true (by omega)]; rfl⟩
    | none n L h hd hr ht => exact .inl ⟨by decide, rfl, by decide, by omega, rfl⟩
    | ok n L h hd hr ht =>
      obtain ⟨l, hl⟩ := prg_of h
      obtain ⟨m, hm⟩ := prg_of ht
      have e := hl.out.symm.trans h
      injection e with e
      have e2 := hm.out.symm.trans ht
      injection e2 with e2
      rw [← e, ← e2] at hr
      exact .inr ⟨rfl, l, m, hl, hm, script_near hl hr⟩
  clear hd
  go_enter Try.func5, Try.ntmps5
  go_wp2_with fail
  refine (unhide HAL).mono ?_
  rintro e w1 ⟨rfl, hB1⟩
  have HB1 := hide hB1
  clear hB1 HAL
  go_wp2_with fail
  refine (unhide HP a _).mono ?_
  rintro e w2 ⟨rfl, hB2⟩
  have HB2 := hide ((unhide HB1).trans (hB2.mono (unhide HB1).size))
  clear hB2 HB1
  cases ha : isOk (outT a) with
  | true =>
    obtain ⟨la, hla⟩ := isOk_prg ha
    have HLA := hide hla
    clear ha hla
    go_wp2_with fail
    refine (unhide HPA _ _).mono ?_
    rintro e w3 ⟨hB3, s, c, p, rfl, ho⟩
    obtain ⟨rfl, rfl⟩ := patch_none (unhide HLA) ho
    have HB3 := hide ((unhide HB2).trans (hB3.mono (unhide HB2).size))
    clear hB3 HB2 ho
    go_wp2_with fail
    refine (unhide HPA _ _).mono ?_
    rintro e w4 ⟨hB4, t, c, p, rfl, ho⟩
    have HB4 := hide ((unhide HB3).trans (hB4.mono (unhide HB3).size))
    have hr := unhide HREST _ _ _ ho
    clear hB4 HB3 ho HREST HPA
    rcases hr with ⟨hc, rfl, hp0, hp1, h5⟩ | ⟨rfl, l, m, hl, hm, hle⟩
    · have hc' : (c != 0) = true := bne_iff_ne.2 hc
      by_cases hp : 0 < p
      · rw [decide_eq_true hp] at h5
        clear hc
        go_wp2_with fail
        refine (unhide HL _).mono ?_
        rintro e w5 ⟨hB5, q, cc, rfl⟩
        have HB5 := hide ((unhide HB4).trans (hB5.mono (unhide HB4).size))
        clear hB5 HB4
        generalize cntL d.data.toList = cn at *
        go_wp2_with fail
        go_ret
        exact ⟨ret_bool (by first | (simp; done) | (simp; omega)), unhide HB5⟩
      · rw [decide_eq_false hp] at h5
        clear hc
        go_wp2_with fail
        refine (unhide HL _).mono ?_
        rintro e w5 ⟨hB5, q, cc, rfl⟩
        have HB5 := hide ((unhide HB4).trans (hB5.mono (unhide HB4).size))
        clear hB5 HB4
        generalize cntL d.data.toList = cn at *
        go_wp2_with fail
        go_ret
        exact ⟨ret_bool (by first | (simp; done) | (simp; omega)), unhide HB5⟩
    · have hdt := hl.dist hm
      have hk1 := hl.ok
      have hk2 := hm.ok
      have hdl := dlR_le l m
      have hl1 := hl.len
      have hl2 := hm.len
      have HDT := hide hdt
      have HK1 := hide hk1
      have HK2 := hide hk2
      clear hdt hk1 hk2 hl hm
      generalize dlR l m = x at *
      have hx : x ≤ 200 := by omega
      clear hdl hl1 hl2
      go_wp2_with fail
      refine (unhide HD _ _ _).mono ?_
      rw [unhide HDT]
      rintro e w5 ⟨rfl, hB5⟩
      have HB5 := hide ((unhide HB4).trans (hB5.mono (unhide HB4).size))
      clear hB5 HB4
      go_wp2_with fail
      refine (unhide HP _ _).mono ?_
      rw [unhide HK1]
      rintro e w6 ⟨rfl, hB6⟩
      have HB6 := hide ((unhide HB5).trans (hB6.mono (unhide HB5).size))
      clear hB6 HB5
      go_wp2_with fail
      refine (unhide HP _ _).mono ?_
      rw [unhide HK2]
      rintro e w7 ⟨rfl, hB7⟩
      have HB7 := hide ((unhide HB6).trans (hB7.mono (unhide HB6).size))
      clear hB7 HB6
      go_wp2_with fail
      refine (unhide HL _).mono ?_
      rintro e w8 ⟨hB8, q, cc, rfl⟩
      have HB8 := hide ((unhide HB7).trans (hB8.mono (unhide HB7).size))
      clear hB8 HB7
      generalize cntL d.data.toList = cn at *
      go_wp2_with fail
      go_ret
      exact ⟨ret_bool (by first | (simp; done) | (simp; omega)), unhide HB8⟩
  | false =>
    clear ha
    go_wp2_with fail
    refine (unhide HPA _ _).mono ?_
    rintro e w4 ⟨hB4, t, c, p, rfl, ho⟩
    have HB4 := hide ((unhide HB2).trans (hB4.mono (unhide HB2).size))
    have hr := unhide HREST _ _ _ ho
    clear hB4 HB2 ho HREST HPA
    rcases hr with ⟨hc, rfl, hp0, hp1, h5⟩ | ⟨rfl, l, m, hl, hm, hle⟩
    · have hc' : (c != 0) = true := bne_iff_ne.2 hc
      by_cases hp : 0 < p
      · rw [decide_eq_true hp] at h5
        clear hc
        go_wp2_with fail
        refine (unhide HL _).mono ?_
        rintro e w5 ⟨hB5, q, cc, rfl⟩
        have HB5 := hide ((unhide HB4).trans (hB5.mono (unhide HB4).size))
        clear hB5 HB4
        generalize cntL d.data.toList = cn at *
        go_wp2_with fail
        go_ret
        exact ⟨ret_bool (by first | (simp; done) | (simp; omega)), unhide HB5⟩
      · rw [decide_eq_false hp] at h5
        clear hc
        go_wp2_with fail
        refine (unhide HL _).mono ?_
        rintro e w5 ⟨hB5, q, cc, rfl⟩
        have HB5 := hide ((unhide HB4).trans (hB5.mono (unhide HB4).size))
        clear hB5 HB4
        generalize cntL d.data.toList = cn at *
        go_wp2_with fail
        go_ret
        exact ⟨ret_bool (by first | (simp; done) | (simp; omega)), unhide HB5⟩
    · have hdt := hl.dist hm
      have hk1 := hl.ok
      have hk2 := hm.ok
      have hdl := dlR_le l m
      have hl1 := hl.len
      have hl2 := hm.len
      have HDT := hide hdt
      have HK1 := hide hk1
      have HK2 := hide hk2
      clear hdt hk1 hk2 hl hm
      generalize dlR l m = x at *
      have hx : x ≤ 200 := by omega
      clear hdl hl1 hl2
      go_wp2_with fail
      refine (unhide HD _ _ _).mono ?_
      rw [unhide HDT]
      rintro e w5 ⟨rfl, hB5⟩
      have HB5 := hide ((unhide HB4).trans (hB5.mono (unhide HB4).size))
      clear hB5 HB4
      go_wp2_with fail
      refine (unhide HP _ _).mono ?_
      rw [unhide HK1]
      rintro e w6 ⟨rfl, hB6⟩
      have HB6 := hide ((unhide HB5).trans (hB6.mono (unhide HB5).size))
      clear hB6 HB5
      go_wp2_with fail
      refine (unhide HP _ _).mono ?_
      rw [unhide HK2]
      rintro e w7 ⟨rfl, hB7⟩
      have HB7 := hide ((unhide HB6).trans (hB7.mono (unhide HB6).size))
      clear hB7 HB6
      go_wp2_with fail
      refine (unhide HL _).mono ?_
      rintro e w8 ⟨hB8, q, cc, rfl⟩
      have HB8 := hide ((unhide HB7).trans (hB8.mono (unhide HB7).size))
      clear hB8 HB7
      generalize cntL d.data.toList = cn at *
      go_wp2_with fail
      go_ret
      exact ⟨ret_bool (by first | (simp; done) | (simp; omega)), unhide HB8⟩

end Go.Proofs.Ytdaneedflpfeaaa

namespace Go.Proofs.Ytdaneedflpfeaaa
set_option maxRecDepth 100000
open Go.ChangeShapes Go.WideShapes Go.ChangeAt Go.RowKit
open Go.ChangeMaps (open_string shut_string)

theorem ownRival : ownKnob Try.prog.godebug = none := by kernel_rfl
/-- What the bound gives: the script's length. -/
theorem short2 {H : Type} {s t : ByteArray} (hk : Rows.uptoSmall H [.lit (.string s.data.toList), .lit (.string t.data.toList)] = true) : t.size ≤ 1100000 := by
  have h : Rows.uptoBulkAll [DataW.lit (H := H) (.string s.data.toList), .lit (.string t.data.toList)] ≤ 1048576 := of_decide_eq_true hk
  simp only [Rows.uptoBulkAll, Rows.uptoBulk] at h
  have e : t.data.toList.length = t.size := by rw [Array.length_toList]; rfl
  omega

set_option maxRecDepth 100000 in
theorem rival_lifted (os : Os) (started : os.Started) (H : Type) (enc : TypeId × Value → H) (F : Stop.Interp) :
    ReturnsInHanded {} Try.checked os 5 .any ((Rows.OpenSpec.upto Rows.rivalSpec).pre6 enc Try.prog Try.f5 Rows.rivalUptoRow.domain false) (((Rows.OpenSpec.upto Rows.rivalSpec).at F).post enc Try.prog Try.f5 false true false false) := by
  refine returnsInHanded_of_cond (C := Try.checked) (s := Rows.OpenSpec.upto Rows.rivalSpec) (k := Rows.uptoSmall) rfl ownRival started (by kernel_rfl) Try.func5
    (OpenSpec.witness (enc := enc) (C := Try.checked) (s := Rows.OpenSpec.upto Rows.rivalSpec) (k := Rows.uptoSmall) rfl false ⟨#[], #[.string .empty, .string .empty], []⟩ 8 (by kernel_rfl) (by kernel_rfl) (by kernel_rfl)
      (x := ([.lit (.string []), .lit (.string [])], [], [])) (by kernel_rfl) rfl (by kernel_rfl)) ?_
  intro W base args ds gs before hval0 hW _ hk _
  have hval : ∀ (j : Nat) t v, Try.f5.params[j]? = some t → args[j]? = some v → Value.okWide Try.prog W .any base t v := hval0
  have hW' := hW
  obtain ⟨p, q, hA0, hV, rfl, hfz, hnd⟩ := hW
  have hA : DataW.TrodAll enc Try.prog W 0 (fun _ => true) true Try.f5.params.toList args.toList ds p := hA0
  rw [Try.params5] at hA hval
  obtain ⟨v0, vs0, d0, ds0, p0, q0, hargs0, rfl, rfl, h0, r0⟩ := trodAll_cons hA
  obtain ⟨v1, vs1, d1, ds1, p1, q1, hargs1, rfl, rfl, h1, r1⟩ := trodAll_cons r0
  obtain ⟨rfl, rfl, rfl⟩ := trodAll_nil r1
  obtain rfl : args = #[v0, v1] := by cases args; simp_all
  obtain ⟨rfl, rfl⟩ := trodVars_none hV
  obtain ⟨a0, rfl, rfl, rfl, w0⟩ := open_string Try.underlying9 (hval 0 9 v0 rfl rfl) h0
  obtain ⟨a1, rfl, rfl, rfl, w1⟩ := open_string Try.underlying9 (hval 1 9 v1 rfl rfl) h1
  clear hA0 hval0
  simp only [List.append_nil] at hW' hk
  refine (rival_any a0 a1 W (short2 hk)).mono fun e W' ⟨he, hg⟩ => ?_
  subst he
  exact ⟨_, rfl, _, _, _, [], [], [], hW', (trodAll_cons_mk (shut_bool Try.underlying4 _) trodAll_mk0), (trodAll_cons_mk (shut_string Try.underlying9 w0) (trodAll_cons_mk (shut_string Try.underlying9 w1) trodAll_mk0)), rfl, hg.frame _, fun h => by cases h⟩

theorem rival_proved : Rows.RivalUptoSaid :=
  OpenClaim.holds_of_cond 5 Try.f5 rfl rfl rfl rfl rfl rfl rfl ⟨rfl, rfl, rfl, rfl, rfl⟩ rfl rfl rfl rfl rfl (by kernel_rfl) Try.func5 (by kernel_rfl)
    (of_decide_eq_true (by kernel_rfl)) (by unfold Func.isWrapper; first | (rw [if_pos (by decide +kernel)]; kernel_rfl) | (rw [if_neg (by decide +kernel)]; exact ⟨rfl, rfl⟩))
    (fun os started H enc _ F => rival_lifted os started H enc F)

#print axioms rival_proved

end Go.Proofs.Ytdaneedflpfeaaa
