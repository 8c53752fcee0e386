import Derived.Test.YtdaneedflpfeaaaGreatDoorPatT
import Derived.Test.YtdaneedflpfeaaaGreatDoorOut
import Derived.Laws.StructEq
namespace Go.Proofs.YtdaneedflpfeaaaGreatDoor
set_option maxRecDepth 100000
open Go.RowKit

/-- The leaves, one behind the other. -/
def leafB (l : List Nd) : List UInt8 := l.flatMap fun x => if x.inner then [] else x.text.data.toList
theorem leafB_snoc (l : List Nd) (x : Nd) : leafB (l ++ [x]) = leafB l ++ (if x.inner then [] else x.text.data.toList) := by simp [leafB]
theorem cat_data (a : ByteArray) (l : List UInt8) (h : a = mk l) (b : ByteArray) : a ++ b = mk (l ++ b.data.toList) := by rw [h, cat_mk]

set_option maxHeartbeats 3200000 in
theorem leafText_any (l : List Nd) (g cap : Nat) (w : World) (hl : l.length ≤ 100000) (ht : ∀ x ∈ l, x.text.size ≤ 10000) (hn : NA w g 0 l) :
    Calls Tryz.prog 30 #[.slice (some ⟨g, 0, none⟩) l.length cap] w fun e w' => e = .returned (.string (mk (leafB l))) ∧ Below w.heap.size w w' := by
  have HN := hide hn
  have HT := hide ht
  have hgl := hn.lt
  clear hn ht
  go_enter Tryz.func30, Tryz.ntmps30
  go_wp2_with fail
  go_loopw [3, 5, 8] (fun v _ i wr => ∃ (k : Nat) (o : ByteArray), k ≤ l.length ∧ i = .int .i64 k ∧ v = .string o ∧ Hid (o = mk (leafB (l.take k))) ∧ o.size ≤ k * 10000 ∧ Below w.heap.size w wr) (fun _ _ i _ => l.length - (intOf i).toNat)
  case atStart => exact ⟨0, ⟨#[]⟩, Nat.zero_le _, rfl, rfl, rfl, Nat.le_refl _, Below.refl _ _⟩
  case round =>
    obtain ⟨k, o, hk, rfl, rfl, HO, hos, hB⟩ := hrel
    have HB := hide hB
    have hsz := hB.size
    have hgr : g < wr.heap.size := by omega
    have hna := (unhide HN).below hB hgl
    by_cases hlt : k < l.length
    · have hx : l[k]? = some l[k] := List.getElem?_eq_getElem hlt
      obtain ⟨x0, x1, x2⟩ := hna.cell0 hx
      have hxt := unhide HT _ (List.getElem_mem hlt)
      have HI : Hid (leafB (l.take (k + 1)) = leafB (l.take k) ++ (if (l[k]'hlt).inner then [] else (l[k]'hlt).text.data.toList)) := by show _ = _; rw [List.take_succ_eq_append_getElem hlt, leafB_snoc]
      clear hna hB hx
      generalize (l[k]'hlt) = x at *
      cases hin : x.inner with
      | true =>
        rw [hin] at x0
        have HO2 : Hid (o = mk (leafB (l.take (k + 1)))) := by show o = _; rw [unhide HI, hin, unhide HO]; simp
        clear hin
        go_wp2_with fail
        go_roundw
        case rel => exact ⟨k + 1, o, by omega, by go_num, rfl, HO2, by omega, (unhide HB).alloc hsz _⟩
        case measure => simp [intOf]; omega
      | false =>
        rw [hin] at x0
        have HO2 : Hid (o ++ x.text = mk (leafB (l.take (k + 1)))) := by show _ = _; rw [unhide HI, hin, cat_data o _ (unhide HO)]; rfl
        clear hin
        go_wp2_with fail
        go_roundw
        case rel => exact ⟨k + 1, _, by omega, by go_num, rfl, HO2, by rw [ByteArray.size_append]; omega, (unhide HB).alloc hsz _⟩
        case measure => simp [intOf]; omega
    · have HTK : Hid (l.take k = l) := List.take_of_length_le (by omega)
      clear hna hB
      go_wp2_with fail
      go_ret
      exact ⟨ret_str (by rw [unhide HO, unhide HTK]), unhide HB⟩

theorem eq_nd (x y : Nd) (w : World) : (Op.equalIn 10000 95 (.agg #[.bool x.inner, .string x.text, .int .i64 x.depth]) (.agg #[.bool y.inner, .string y.text, .int .i64 y.depth])).run Tryz.prog w = .ok (x.inner == y.inner && x.text.toList == y.text.toList && x.depth == y.depth) w := by
  have u3 := Tryz.underlying3
  have u4 := Tryz.underlying4
  have u9 := Tryz.underlying9
  have a3 := Tryz.isAgg3
  have a4 := Tryz.isAgg4
  have a9 := Tryz.isAgg9
  have z3 := Tryz.sizeOf3
  have z4 := Tryz.sizeOf4
  have z9 := Tryz.sizeOf9
  have hS : Tryz.prog.underlying 95 = some (.struct (Tryz.prog.fieldsOf 95)) := by kernel_rfl
  have hp : Tryz.prog.stoodInHeld 95 = false := by kernel_rfl
  rw [show (10000 : Nat) = 9999 + 1 from rfl, run_equalIn_agg w 9999 95 _ _ hS hp]
  simp only [Program.fieldsOf, Tryz.underlying95]
  go_simp
  by_cases h1 : x.inner = y.inner <;> by_cases h2 : x.text.toList = y.text.toList <;> by_cases h3 : x.depth = y.depth <;> simp [h1, h2, h3]
theorem nd_eq_iff (x y : Nd) : (x.inner == y.inner && x.text.toList == y.text.toList && x.depth == y.depth) = true ↔ x = y := by
  simp only [Bool.and_eq_true, beq_iff_eq]
  constructor
  · rintro ⟨⟨h1, h2⟩, h3⟩
    cases x; cases y
    simp only at h1 h2 h3
    subst h1 h3
    rw [ba_same h2]
  · rintro rfl; exact ⟨⟨rfl, rfl⟩, rfl⟩

set_option maxHeartbeats 3200000 in
theorem isTreeOf_any (l : List Nd) (s : ByteArray) (g cap : Nat) (w : World) (hn : NA w g 0 l) :
    Calls Tryz.prog 31 #[.slice (some ⟨g, 0, none⟩) l.length cap, .string s] w fun e w' => Below w.heap.size w w' ∧ ∃ b, e = .returned (.bool b) ∧ (b = true ↔ outT s = .ok l) := by
  have HRD := hide (read_all s w)
  have HN := hide hn
  have hgl := hn.lt
  clear hn
  cases ho : outT s with
  | err c p =>
    rw [ho] at HRD
    have hc : (c != 0) = true := bne_iff_ne.2 (outT_ne ho).1
    clear ho
    go_enter Tryz.func31, Tryz.ntmps31
    go_wp2_with fail
    refine (unhide HRD).mono ?_
    rintro e w1 ⟨hB, rfl⟩
    have HB := hide hB
    clear hB
    go_wp2_with fail
    go_ret
    exact ⟨unhide HB, _, rfl, by simp⟩
  | ok m =>
    rw [ho] at HRD
    have hml : m.length ≤ 80 := by obtain ⟨l0, j, _, _, h, h2, _⟩ := outT_mod ho; rw [h, List.length_map]; exact h2
    clear ho
    go_enter Tryz.func31, Tryz.ntmps31
    go_wp2_with fail
    refine (unhide HRD).mono ?_
    rintro e w1 ⟨hB, g1, cap1, rfl, hg1, hown⟩
    have HB := hide hB
    have hsz := hB.size
    have HN1 := hide ((unhide HN).below hB hgl)
    have HM1 := hide (NA.of_own hown hg1 rfl)
    have hg1' : g < w1.heap.size := by omega
    clear hB hown HN HRD
    by_cases hll : l.length = m.length
    · have hll' : ((l.length : Int) != (m.length : Int)) = false := by simp [hll]
      go_wp2_with fail
      go_loopw [8, 9, 27] (fun _ _ i wr => ∃ k : Nat, k ≤ l.length ∧ i = .int .i64 k ∧ Hid (l.take k = m.take k) ∧ Below w1.heap.size w1 wr) (fun _ _ i _ => l.length - (intOf i).toNat)
      case atStart => exact ⟨0, Nat.zero_le _, rfl, rfl, Below.refl _ _⟩
      case round =>
        obtain ⟨k, hk, rfl, HK, hB2⟩ := hrel
        have HB2 : Hid (Below w.heap.size w wr) := (unhide HB).trans (hB2.mono hsz)
        have HBW := hide hB2
        have hszr := hB2.size
        have hgr : g < wr.heap.size := by omega
        have hgr1 : g1 < wr.heap.size := by omega
        by_cases hlt : k < l.length
        · have hx : l[k]? = some l[k] := List.getElem?_eq_getElem hlt
          have hltm : k < m.length := by omega
          have hy : m[k]? = some m[k] := List.getElem?_eq_getElem hltm
          obtain ⟨x0, x1, x2⟩ := ((unhide HN1).below hB2 hg1').cell0 hx
          obtain ⟨y0, y1, y2⟩ := ((unhide HM1).below hB2 hg1).cell0 hy
          have HT : Hid (l.take (k + 1) = l.take k ++ [l[k]] ∧ m.take (k + 1) = m.take k ++ [m[k]]) := ⟨List.take_succ_eq_append_getElem hlt, List.take_succ_eq_append_getElem hltm⟩
          have HNE : Hid (l[k] ≠ m[k] → l ≠ m) := fun h e => h (by subst e; rfl)
          clear hB2 hx hy
          generalize (l[k]'hlt) = x at *
          generalize (m[k]'hltm) = y at *
          have hm : Tryz.prog.eqGuardType Tryz.prog.depth 95 = false := by kernel_rfl
          have HEQ := hide (nd_eq_iff x y)
          have heq := fun wx => eq_nd x y wx
          generalize (x.inner == y.inner && x.text.toList == y.text.toList && x.depth == y.depth) = b at *
          cases b with
          | false =>
            have HNX : Hid (l ≠ m) := unhide HNE (fun e => by have := (unhide HEQ).2 e; cases this)
            go_wp2_with fail
            go_quiet (fail)
            go_wp2_with fail
            go_ret
            exact ⟨((unhide HB2).alloc (by omega) _).trans (below_drewN' _ _ _), _, rfl, by simp; exact fun h => unhide HNX h.symm⟩
          | true =>
            have HXY := hide ((unhide HEQ).1 rfl)
            go_wp2_with fail
            go_quiet (fail)
            go_wp2_with fail
            go_roundw
            case rel => exact ⟨k + 1, by omega, by go_num, by show _ = _; rw [(unhide HT).1, (unhide HT).2, unhide HK, unhide HXY], ((unhide HBW).alloc (Nat.le_trans (Nat.le_refl _) hszr) _).trans (below_drewN' _ _ _)⟩
            case measure => simp [intOf]; omega
        · have HLM : Hid (l = m) := by
            show l = m
            have := unhide HK
            rwa [List.take_of_length_le (by omega), List.take_of_length_le (by omega)] at this
          clear hB2
          go_wp2_with fail
          go_ret
          exact ⟨unhide HB2, _, rfl, by simp; exact (unhide HLM).symm⟩
    · have hll' : ((l.length : Int) != (m.length : Int)) = true := by simp; omega
      go_wp2_with fail
      go_ret
      exact ⟨unhide HB, _, rfl, by simp; intro h; exact hll (by rw [h])⟩

end Go.Proofs.YtdaneedflpfeaaaGreatDoor

namespace Go.Proofs.YtdaneedflpfeaaaGreatDoor
set_option maxRecDepth 100000
open Go.RowKit

theorem fine_rows {l : List Rw} (h1 : l.length ≤ 79) (h2 : ∀ x ∈ l, x.deep ≤ 1000 ∧ x.text.size ≤ 1000) : Fine 0 ((nodeR kProgram l).map (toNd 0)) := by
  rw [map_node]
  refine ⟨by simp, by simp; omega, fun x hx => ?_⟩
  rcases List.mem_cons.1 hx with rfl | hx
  · exact ⟨by decide, by decide, by decide⟩
  · obtain ⟨y, hy, rfl⟩ := List.mem_map.1 hx
    have := h2 y hy
    exact ⟨by show _ ≤ 0 + 1 + (y.deep : Int); omega, by show 0 + 1 + (y.deep : Int) ≤ _; omega, by show y.text.size ≤ _; omega⟩

/-- What Patch answers. -/
inductive PatchOut (a d : ByteArray) : ByteArray → Int → Int → Prop where
  | err (c p : Int) (h : outT a = .err c p) : PatchOut a d ⟨#[]⟩ c 0
  | long (n : List Nd) (h : outT a = .ok n) (hd : 9000 < d.size) : PatchOut a d ⟨#[]⟩ 1 0
  | bad (n : List Nd) (k : Nat) (h : outT a = .ok n) (hd : d.size ≤ 9000) (hr : scrN d n 0 1 = .bad k) : PatchOut a d ⟨#[]⟩ 5 k
  | none (n L : List Nd) (h : outT a = .ok n) (hd : d.size ≤ 9000) (hr : scrN d n 0 1 = .ok L) (ht : outT (mk (leafB L)) ≠ .ok L) : PatchOut a d ⟨#[]⟩ 6 0
  | ok (n L : List Nd) (h : outT a = .ok n) (hd : d.size ≤ 9000) (hr : scrN d n 0 1 = .ok L) (ht : outT (mk (leafB L)) = .ok L) : PatchOut a d (mk (leafB L)) 0 0
theorem scrN_bad (d : ByteArray) (l : List Nd) (a line k : Nat) (h : scrN d l a line = .bad k) : line ≤ k ∧ k ≤ line + (d.size - a) := by
  induction l, a, line using scrN.induct d with
  | case1 l a line h1 h2 h3 => rw [scrN, dif_pos h1, dif_pos h2, h3] at h; cases h; omega
  | case2 l a line h1 h2 st h3 h4 => rw [scrN, dif_pos h1, dif_pos h2, h3] at h; simp only [h4] at h; cases h; omega
  | case3 l a line h1 h2 st h3 m h4 ih =>
    rw [scrN, dif_pos h1, dif_pos h2, h3] at h
    simp only [h4] at h
    have := ih h
    have := lineE_ge d a (by omega)
    omega
  | case4 l a line h1 h2 => rw [scrN, dif_pos h1, dif_neg h2] at h; cases h; omega
  | case5 l a line h1 => rw [scrN, dif_neg h1] at h; cases h
theorem scrN_fine (d : ByteArray) (hd : d.size ≤ 9000) (l : List Nd) (a n : Nat) (L : List Nd) (h : scrN d l a (n + 1) = .ok L) (hf : Fine n l) (hn : n ≤ a) (ha : a ≤ d.size) : ∃ k, k ≤ d.size ∧ Fine k L := by
  generalize hl : n + 1 = line at h
  induction l, a, line using scrN.induct d generalizing n with
  | case1 l a line h1 h2 h3 => rw [scrN, dif_pos h1, dif_pos h2, h3] at h; cases h
  | case2 l a line h1 h2 st h3 h4 => rw [scrN, dif_pos h1, dif_pos h2, h3] at h; simp only [h4] at h; cases h
  | case3 l a line h1 h2 st h3 m h4 ih =>
    rw [scrN, dif_pos h1, dif_pos h2, h3] at h
    simp only [h4] at h
    have hge := lineE_ge d a (by omega)
    have hls : (lineL d a).length ≤ 10000 := by have := List.length_take_le (runE noLf d a - a) (d.data.toList.drop a); unfold lineL; omega
    have hfm := stepN_fine hf (stepW_small hls h3) h4
    exact ih (n + 1) hfm (by omega) (by omega) (by omega) h
  | case4 l a line h1 h2 => rw [scrN, dif_pos h1, dif_neg h2] at h; cases h
  | case5 l a line h1 => rw [scrN, dif_neg h1] at h; cases h; exact ⟨n, by omega, hf⟩

theorem leafB_len (l : List Nd) (h : ∀ x ∈ l, x.text.size ≤ 10000) : (leafB l).length ≤ l.length * 10000 := by
  induction l with
  | nil => simp [leafB]
  | cons x l ih =>
    have h1 := ih (fun y hy => h y (by simp [hy]))
    have h2 := h x (by simp)
    have e : leafB (x :: l) = (if x.inner then [] else x.text.data.toList) ++ leafB l := by simp [leafB]
    rw [e, List.length_append, List.length_cons]
    have : (if x.inner then ([] : List UInt8) else x.text.data.toList).length ≤ 10000 := by
      split
      · simp
      · exact h2
    omega

set_option maxHeartbeats 3200000 in
theorem patch_any (a d : ByteArray) (w : World) :
    Calls Tryz.prog 12 #[.string a, .string d] w fun e w' => Below w.heap.size w w' ∧ ∃ s c p, e = .returned (.tuple #[.string s, .int .i64 c, .int .i64 p]) ∧ PatchOut a d s c p := by
  have HRD := hide (read_all a w)
  cases ho : outT a with
  | err c p =>
    rw [ho] at HRD
    have hc : (c != 0) = true := bne_iff_ne.2 (outT_ne ho).1
    have HO := hide ho
    clear ho
    go_enter Tryz.func12, Tryz.ntmps12
    go_wp2_with fail
    refine (unhide HRD).mono ?_
    rintro e w1 ⟨hB, rfl⟩
    have HB := hide hB
    clear hB
    go_wp2_with fail
    go_ret3
    exact ⟨unhide HB, _, _, _, rfl, .err c p (unhide HO)⟩
  | ok nodes =>
    rw [ho] at HRD
    have HO := hide ho
    have HF : Hid (Fine 0 nodes) := by obtain ⟨l, e, _, _, h1, h2⟩ := ok_rows ho; show Fine 0 nodes; rw [e]; exact fine_rows h1 h2
    clear ho
    by_cases hd : 9000 < d.size
    · go_enter Tryz.func12, Tryz.ntmps12
      go_wp2_with fail
      refine (unhide HRD).mono ?_
      rintro e w1 ⟨hB, g1, cap1, rfl, hg1, hown⟩
      have HB := hide hB
      clear hB hown
      go_wp2_with fail
      go_ret3
      exact ⟨unhide HB, _, _, _, rfl, .long nodes (unhide HO) hd⟩
    · have HSB := hide (scrN_bad d nodes 0 1)
      have HSF := hide (fun L h => scrN_fine d (by omega) nodes 0 0 L h (unhide HF) (Nat.le_refl _) (Nat.zero_le _))
      go_enter Tryz.func12, Tryz.ntmps12
      go_wp2_with fail
      refine (unhide HRD).mono ?_
      rintro e w1 ⟨hB, g1, cap1, rfl, hg1, hown⟩
      have HB := hide hB
      have hsz := hB.size
      have hcc := own_cap hown
      have HNA := hide (NA.of_own hown hg1 rfl)
      clear hB hown HRD
      go_wp2_with fail
      refine (carryOut_any nodes d g1 cap1 _ (by omega) (unhide HF) hcc.1 hcc.2 (unhide HNA)).mono ?_
      rintro e w2 ⟨hB2, hr⟩
      have HB2 : Hid (Below w.heap.size w w2) := (unhide HB).trans (hB2.mono hsz)
      have hsz2 := hB2.size
      clear hB2
      cases hs : scrN d nodes 0 1 with
      | bad k =>
        rw [hs] at hr
        have hr' : e = .returned (.tuple #[.slice none 0 0, .int .i64 (k : Int)]) := hr
        subst hr'
        have hk := unhide HSB k hs
        have HOUT := hide (PatchOut.bad (d := d) nodes k (unhide HO) (by omega) hs)
        clear hr hs
        go_wp2_with fail
        go_ret3
        exact ⟨unhide HB2, _, _, _, rfl, unhide HOUT⟩
      | ok L =>
        rw [hs] at hr
        obtain ⟨g2, cap2, rfl, hna2⟩ := hr
        have HN2 := hide hna2
        have hg2 := hna2.lt
        obtain ⟨kk, hkk, hfk⟩ := unhide HSF L hs
        have hLl : L.length ≤ 100000 := by have := hfk.2.1; omega
        have HLT := hide (fun wx h => leafText_any L g2 cap2 wx hLl (fun x hx => (hfk.2.2 x hx).2.2) h)
        have HIT := hide (fun wx h => isTreeOf_any L (mk (leafB L)) g2 cap2 wx h)
        have HOK := hide (fun h => PatchOut.ok (d := d) nodes L (unhide HO) (by omega) hs h)
        have HNO := hide (fun h => PatchOut.none (d := d) nodes L (unhide HO) (by omega) hs h)
        clear hna2 hs hfk HSB HSF
        generalize hgm : mk (leafB L) = T at *
        go_wp2_with fail
        refine (unhide HLT _ (unhide HN2)).mono ?_
        rintro e w3 ⟨rfl, hB3⟩
        have HB3 : Hid (Below w.heap.size w w3) := (unhide HB2).trans (hB3.mono (by omega))
        have hsz3 := hB3.size
        have HN3 := hide ((unhide HN2).below hB3 hg2)
        clear hB3
        try rw [hgm]
        go_wp2_with fail
        refine (unhide HIT _ (unhide HN3)).mono ?_
        rintro e w4 ⟨hB4, b, rfl, hbi⟩
        have HB4 : Hid (Below w.heap.size w w4) := (unhide HB3).trans (hB4.mono (by omega))
        clear hB4
        cases b with
        | true =>
          have HFIN := hide (unhide HOK (hbi.1 rfl))
          clear hbi HOK HNO
          go_wp2_with fail
          go_ret3
          exact ⟨unhide HB4, _, _, _, rfl, unhide HFIN⟩
        | false =>
          have HFIN := hide (unhide HNO (fun h => by have := hbi.2 h; cases this))
          clear hbi HOK HNO
          go_wp2_with fail
          go_ret3
          exact ⟨unhide HB4, _, _, _, rfl, unhide HFIN⟩

end Go.Proofs.YtdaneedflpfeaaaGreatDoor
