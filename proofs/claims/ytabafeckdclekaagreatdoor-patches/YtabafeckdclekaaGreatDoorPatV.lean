import Derived.Test.YtabafeckdclekaaGreatDoorPatU
import Derived.Test.YtabafeckdclekaaGreatDoorRefParse
namespace Go.Proofs.YtabafeckdclekaaGreatDoor
set_option maxRecDepth 100000
open Go.RowKit

/-- What a text that is a program reads as. -/
theorem ok_rows {s : ByteArray} {nodes : List Nd} (h : outT s = .ok nodes) : ∃ l, nodes = (nodeR kProgram l).map (toNd 0) ∧ RC 0 l ∧ 1 ≤ l.length ∧ l.length ≤ 79 ∧ ∀ x ∈ l, x.deep ≤ 1000 ∧ x.text.size ≤ 1000 := by
  have hs : s.size ≤ 600 := by obtain ⟨_, _, hs, _⟩ := outT_mod h; exact hs
  obtain ⟨l1, s1, n, _, _, hsm⟩ := same_out s hs
  rw [h] at hsm
  cases hr : outR (scanL s 0) l1 s1 with
  | err c p => rw [hr] at hsm; exact hsm.elim
  | ok l => rw [hr] at hsm; exact ⟨l, hsm⟩
theorem fine_rows {l : List Rw} (h1 : l.length ≤ 79) (h2 : ∀ x ∈ l, x.deep ≤ 1000 ∧ x.text.size ≤ 1000) : Fine 0 ((nodeR kProgram l).map (toNd 0)) := by
  rw [map_node]
  refine ⟨by simp, by simp; omega, fun x hx => ?_⟩
  rcases List.mem_cons.1 hx with rfl | hx
  · exact ⟨by decide, by decide, by decide⟩
  · obtain ⟨y, hy, rfl⟩ := List.mem_map.1 hx
    have := h2 y hy
    exact ⟨by show _ ≤ 0 + 1 + (y.deep : Int); omega, by show 0 + 1 + (y.deep : Int) ≤ _; omega, by show y.text.size ≤ _; omega⟩

/-- What Patch answers. -/
inductive PatchOut (a d : ByteArray) : ByteArray → Int → Int → Prop where
  | err (c p : Int) (h : outT a = .err c p) : PatchOut a d ⟨#[]⟩ c 0
  | long (n : List Nd) (h : outT a = .ok n) (hd : 9000 < d.size) : PatchOut a d ⟨#[]⟩ 1 0
  | bad (n : List Nd) (k : Nat) (h : outT a = .ok n) (hd : d.size ≤ 9000) (hr : scrN d n 0 1 = .bad k) : PatchOut a d ⟨#[]⟩ 5 k
  | none (n L : List Nd) (h : outT a = .ok n) (hd : d.size ≤ 9000) (hr : scrN d n 0 1 = .ok L) (ht : outT (mk (leafB L)) ≠ .ok L) : PatchOut a d ⟨#[]⟩ 6 0
  | ok (n L : List Nd) (h : outT a = .ok n) (hd : d.size ≤ 9000) (hr : scrN d n 0 1 = .ok L) (ht : outT (mk (leafB L)) = .ok L) : PatchOut a d (mk (leafB L)) 0 0
theorem scrN_bad (d : ByteArray) (l : List Nd) (a line k : Nat) (h : scrN d l a line = .bad k) : line ≤ k ∧ k ≤ line + (d.size - a) := by
  induction l, a, line using scrN.induct d with
  | case1 l a line h1 h2 h3 => rw [scrN, dif_pos h1, dif_pos h2, h3] at h; cases h; omega
  | case2 l a line h1 h2 st h3 h4 => rw [scrN, dif_pos h1, dif_pos h2, h3] at h; simp only [h4] at h; cases h; omega
  | case3 l a line h1 h2 st h3 m h4 ih =>
    rw [scrN, dif_pos h1, dif_pos h2, h3] at h
    simp only [h4] at h
    have := ih h
    have := lineE_ge d a (by omega)
    omega
  | case4 l a line h1 h2 => rw [scrN, dif_pos h1, dif_neg h2] at h; cases h; omega
  | case5 l a line h1 => rw [scrN, dif_neg h1] at h; cases h
theorem scrN_fine (d : ByteArray) (hd : d.size ≤ 9000) (l : List Nd) (a n : Nat) (L : List Nd) (h : scrN d l a (n + 1) = .ok L) (hf : Fine n l) (hn : n ≤ a) (ha : a ≤ d.size) : ∃ k, k ≤ d.size ∧ Fine k L := by
  generalize hl : n + 1 = line at h
  induction l, a, line using scrN.induct d generalizing n with
  | case1 l a line h1 h2 h3 => rw [scrN, dif_pos h1, dif_pos h2, h3] at h; cases h
  | case2 l a line h1 h2 st h3 h4 => rw [scrN, dif_pos h1, dif_pos h2, h3] at h; simp only [h4] at h; cases h
  | case3 l a line h1 h2 st h3 m h4 ih =>
    rw [scrN, dif_pos h1, dif_pos h2, h3] at h
    simp only [h4] at h
    have hge := lineE_ge d a (by omega)
    have hls : (lineL d a).length ≤ 10000 := by have := List.length_take_le (runE noLf d a - a) (d.data.toList.drop a); unfold lineL; omega
    have hfm := stepN_fine hf (stepW_small hls h3) h4
    exact ih (n + 1) hfm (by omega) (by omega) (by omega) h
  | case4 l a line h1 h2 => rw [scrN, dif_pos h1, dif_neg h2] at h; cases h
  | case5 l a line h1 => rw [scrN, dif_neg h1] at h; cases h; exact ⟨n, by omega, hf⟩

theorem leafB_len (l : List Nd) (h : ∀ x ∈ l, x.text.size ≤ 10000) : (leafB l).length ≤ l.length * 10000 := by
  induction l with
  | nil => simp [leafB]
  | cons x l ih =>
    have h1 := ih (fun y hy => h y (by simp [hy]))
    have h2 := h x (by simp)
    have e : leafB (x :: l) = (if x.inner then [] else x.text.data.toList) ++ leafB l := by simp [leafB]
    rw [e, List.length_append, List.length_cons]
    have : (if x.inner then ([] : List UInt8) else x.text.data.toList).length ≤ 10000 := by
      split
      · simp
      · exact h2
    omega

set_option maxHeartbeats 3200000 in
theorem patch_any (a d : ByteArray) (w : World) :
    Calls Tryz.prog 4 #[.string a, .string d] w fun e w' => Below w.heap.size w w' ∧ ∃ s c p, e = .returned (.tuple #[.string s, .int .i64 c, .int .i64 p]) ∧ PatchOut a d s c p := by
  have HRD := hide (read_all a w)
  cases ho : outT a with
  | err c p =>
    rw [ho] at HRD
    have hc : (c != 0) = true := bne_iff_ne.2 (outT_ne ho).1
    have HO := hide ho
    clear ho
    go_enter Tryz.func4, Tryz.ntmps4
    go_wp2_with fail
    refine (unhide HRD).mono ?_
    rintro e w1 ⟨hB, rfl⟩
    have HB := hide hB
    clear hB
    go_wp2_with fail
    go_ret3
    exact ⟨unhide HB, _, _, _, rfl, .err c p (unhide HO)⟩
  | ok nodes =>
    rw [ho] at HRD
    have HO := hide ho
    have HF : Hid (Fine 0 nodes) := by obtain ⟨l, e, _, _, h1, h2⟩ := ok_rows ho; show Fine 0 nodes; rw [e]; exact fine_rows h1 h2
    clear ho
    by_cases hd : 9000 < d.size
    · go_enter Tryz.func4, Tryz.ntmps4
      go_wp2_with fail
      refine (unhide HRD).mono ?_
      rintro e w1 ⟨hB, g1, cap1, rfl, hg1, hown⟩
      have HB := hide hB
      clear hB hown
      go_wp2_with fail
      go_ret3
      exact ⟨unhide HB, _, _, _, rfl, .long nodes (unhide HO) hd⟩
    · have HSB := hide (scrN_bad d nodes 0 1)
      have HSF := hide (fun L h => scrN_fine d (by omega) nodes 0 0 L h (unhide HF) (Nat.le_refl _) (Nat.zero_le _))
      go_enter Tryz.func4, Tryz.ntmps4
      go_wp2_with fail
      refine (unhide HRD).mono ?_
      rintro e w1 ⟨hB, g1, cap1, rfl, hg1, hown⟩
      have HB := hide hB
      have hsz := hB.size
      have hcc := own_cap hown
      have HNA := hide (NA.of_own hown hg1 rfl)
      clear hB hown HRD
      go_wp2_with fail
      refine (carryOut_any nodes d g1 cap1 _ (by omega) (unhide HF) hcc.1 hcc.2 (unhide HNA)).mono ?_
      rintro e w2 ⟨hB2, hr⟩
      have HB2 : Hid (Below w.heap.size w w2) := (unhide HB).trans (hB2.mono hsz)
      have hsz2 := hB2.size
      clear hB2
      cases hs : scrN d nodes 0 1 with
      | bad k =>
        rw [hs] at hr
        have hr' : e = .returned (.tuple #[.slice none 0 0, .int .i64 (k : Int)]) := hr
        subst hr'
        have hk := unhide HSB k hs
        have HOUT := hide (PatchOut.bad (d := d) nodes k (unhide HO) (by omega) hs)
        clear hr hs
        go_wp2_with fail
        go_ret3
        exact ⟨unhide HB2, _, _, _, rfl, unhide HOUT⟩
      | ok L =>
        rw [hs] at hr
        obtain ⟨g2, cap2, rfl, hna2⟩ := hr
        have HN2 := hide hna2
        have hg2 := hna2.lt
        obtain ⟨kk, hkk, hfk⟩ := unhide HSF L hs
        have hLl : L.length ≤ 100000 := by have := hfk.2.1; omega
        have HLT := hide (fun wx h => leafText_any L g2 cap2 wx hLl (fun x hx => (hfk.2.2 x hx).2.2) h)
        have HIT := hide (fun wx h => isTreeOf_any L (mk (leafB L)) g2 cap2 wx h)
        have HOK := hide (fun h => PatchOut.ok (d := d) nodes L (unhide HO) (by omega) hs h)
        have HNO := hide (fun h => PatchOut.none (d := d) nodes L (unhide HO) (by omega) hs h)
        clear hna2 hs hfk HSB HSF
        generalize hgm : mk (leafB L) = T at *
        go_wp2_with fail
        refine (unhide HLT _ (unhide HN2)).mono ?_
        rintro e w3 ⟨rfl, hB3⟩
        have HB3 : Hid (Below w.heap.size w w3) := (unhide HB2).trans (hB3.mono (by omega))
        have hsz3 := hB3.size
        have HN3 := hide ((unhide HN2).below hB3 hg2)
        clear hB3
        try rw [hgm]
        go_wp2_with fail
        refine (unhide HIT _ (unhide HN3)).mono ?_
        rintro e w4 ⟨hB4, b, rfl, hbi⟩
        have HB4 : Hid (Below w.heap.size w w4) := (unhide HB3).trans (hB4.mono (by omega))
        clear hB4
        cases b with
        | true =>
          have HFIN := hide (unhide HOK (hbi.1 rfl))
          clear hbi HOK HNO
          go_wp2_with fail
          go_ret3
          exact ⟨unhide HB4, _, _, _, rfl, unhide HFIN⟩
        | false =>
          have HFIN := hide (unhide HNO (fun h => by have := hbi.2 h; cases this))
          clear hbi HOK HNO
          go_wp2_with fail
          go_ret3
          exact ⟨unhide HB4, _, _, _, rfl, unhide HFIN⟩

end Go.Proofs.YtabafeckdclekaaGreatDoor
