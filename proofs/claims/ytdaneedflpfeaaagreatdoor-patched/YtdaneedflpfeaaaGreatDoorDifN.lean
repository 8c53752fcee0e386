import Derived.Test.YtdaneedflpfeaaaGreatDoorDifM
import Derived.Test.YtdaneedflpfeaaaGreatDoorDistI
namespace Go.Proofs.YtdaneedflpfeaaaGreatDoor
set_option maxRecDepth 100000
open Go.RowKit

theorem pm_marks {L M : List Nd} {mf mt : Nat → Nat} {n : Nat} (h : PM L M mf mt 1 L.length 1 M.length n) (hM : 0 < M.length) (h0 : mf 0 = 0) : ∀ k, k < L.length → mf k < M.length := by
  intro k hk
  by_cases hz : mf k = 0
  · omega
  · by_cases k0 : k = 0
    · subst k0; exact absurd h0 hz
    · obtain ⟨m, h1, _⟩ := pm_sub h k (by omega) hk hz
      exact h1

theorem made_row {w : World} {b : Nat} {n : Nat} (h : w.heap[b]? = some (.cells (madeCells #[.int .i64 0] n) 3 (0, 0))) : w.rowIs b 3 n (intsF fun _ => 0) :=
  ⟨_, h, size_madeCells _ _, fun i hi => by simp [madeCells, hi, Nat.mod_one, intsF]⟩
theorem three_blocks (W : World) (X Y Z : Obj) : (((W.alloc X).alloc Y).alloc Z).heap[W.heap.size]? = some X ∧ (((W.alloc X).alloc Y).alloc Z).heap[W.heap.size + 1]? = some Y ∧ (((W.alloc X).alloc Y).alloc Z).heap[W.heap.size + 1 + 1]? = some Z ∧ Below W.heap.size W (((W.alloc X).alloc Y).alloc Z) := by
  refine ⟨?_, ?_, ?_, ?_⟩
  · exact (heap_alloc_old _ _ (by simp; omega)).trans ((heap_alloc_old _ _ (by simp)).trans (heap_alloc_new _ _))
  · have := heap_alloc_new (W.alloc X) Y
    refine (heap_alloc_old _ _ (by simp)).trans ?_
    simpa using this
  · have := heap_alloc_new ((W.alloc X).alloc Y) Z
    simpa using this
  · exact (((Below.refl W.heap.size W).alloc (Nat.le_refl _) X).alloc (by simp) Y).alloc (by simp; omega) Z

theorem three_at (W : World) (X Y Z : Obj) (n : Nat) (hn : W.heap.size = n) : (((W.alloc X).alloc Y).alloc Z).drew.heap[n]? = some X ∧ (((W.alloc X).alloc Y).alloc Z).drew.heap[n + 1]? = some Y ∧ (((W.alloc X).alloc Y).alloc Z).drew.heap[n + 1 + 1]? = some Z ∧ Below W.heap.size W (((W.alloc X).alloc Y).alloc Z).drew := by
  subst hn
  obtain ⟨h1, h2, h3, h4⟩ := three_blocks W X Y Z
  exact ⟨h1, h2, h3, h4.drew⟩

/-- What is left of fewestScript behind the making of the two arrays. -/
structure RestI (a b : ByteArray) (L M : List Nd) (W : World) (gf gt ge gu gb B : Nat) (h : Nat → Nat) (F : Nat → Nat → Int) : Prop where
  pL : PrgN a L
  pM : PrgN b M
  cm : Cmp W L M gf gt ge gu gb B h F
  f : ∀ u v, u < L.length → v < M.length → F u v = dB L M u v
  tx : ∀ x ∈ M, x.text.size ≤ 1000000

set_option maxHeartbeats 6400000 in
theorem fewestScript_any (a b : ByteArray) (L M : List Nd) (gf cf gt ct : Nat) (w : World) (ha : outT a = .ok L) (hb : outT b = .ok M) (hL : NA w gf 0 L) (hM : NA w gt 0 M) :
    Calls Tryz.prog 20 #[.slice (some ⟨gf, 0, none⟩) L.length cf, .slice (some ⟨gt, 0, none⟩) M.length ct] w fun e w' => Below w.heap.size w w' ∧ ∃ d, e = .returned (.string d) ∧ DiffS L M d := by
  have pL := prgN_of ha
  have pM := prgN_of hb
  have l1 := pL.len
  have l2 := pM.len
  have l3 := pL.prog.pos
  have l4 := pM.prog.pos
  have HC := hide (compare_any L M gf cf gt ct w l3 l4 (by omega) (by omega) hL hM)
  have HTX : Hid (∀ x ∈ M, x.text.size ≤ 1000000) := fun x hx => by
    obtain ⟨l, j, _, _, _, _, hm⟩ := outT_mod hb
    exact (hm x hx).2.2
  have HPL := hide pL
  have HPM := hide pM
  have hmk1 := run_make_row' (P := Tryz.prog) 53 3 (.int .i64 0) 8 Tryz.underlying53 Tryz.infoInt rfl .i64 .i64 L.length (by omega) (by omega)
  have hmk2 := run_make_row' (P := Tryz.prog) 53 3 (.int .i64 0) 8 Tryz.underlying53 Tryz.infoInt rfl .i64 .i64 M.length (by omega) (by omega)
  clear hL hM ha hb pL pM
  go_enter Tryz.func20, Tryz.ntmps20
  go_wp2_with fail
  refine (unhide HC).mono ?_
  rintro e w1 ⟨hB1, ge, ce, gu, cu, gb, cb, B, h, F, rfl, hc, hF⟩
  have hBc : Below w1.heap.size w1 (w1.alloc (.cells #[.slice (some ⟨gf, 0, none⟩) L.length cf, .slice (some ⟨gt, 0, none⟩) M.length ct, .slice (some ⟨ge, 0, none⟩) L.length ce, .slice (some ⟨gu, 0, none⟩) M.length cu, .slice (some ⟨gb, 0, none⟩) L.length cb] 67 (0, 0))) := (Below.refl _ _).alloc (Nat.le_refl _) _
  have HI : Hid (RestI a b L M (w1.alloc (.cells #[.slice (some ⟨gf, 0, none⟩) L.length cf, .slice (some ⟨gt, 0, none⟩) M.length ct, .slice (some ⟨ge, 0, none⟩) L.length ce, .slice (some ⟨gu, 0, none⟩) M.length cu, .slice (some ⟨gb, 0, none⟩) L.length cb] 67 (0, 0))) gf gt ge gu gb B h F) := ⟨unhide HPL, unhide HPM, hc.heap hBc, hF, unhide HTX⟩
  have HB1 := hide (hB1.trans (hBc.mono hB1.size))
  have HSZ : Hid ((w1.alloc (.cells #[.slice (some ⟨gf, 0, none⟩) L.length cf, .slice (some ⟨gt, 0, none⟩) M.length ct, .slice (some ⟨ge, 0, none⟩) L.length ce, .slice (some ⟨gu, 0, none⟩) M.length cu, .slice (some ⟨gb, 0, none⟩) L.length cb] 67 (0, 0))).heap.size = w1.heap.size + 1) := by show _ = _; simp
  have HNEW : Hid ((w1.alloc (.cells #[.slice (some ⟨gf, 0, none⟩) L.length cf, .slice (some ⟨gt, 0, none⟩) M.length ct, .slice (some ⟨ge, 0, none⟩) L.length ce, .slice (some ⟨gu, 0, none⟩) M.length cu, .slice (some ⟨gb, 0, none⟩) L.length cb] 67 (0, 0))).heap[w1.heap.size]? = some (.cells #[.slice (some ⟨gf, 0, none⟩) L.length cf, .slice (some ⟨gt, 0, none⟩) M.length ct, .slice (some ⟨ge, 0, none⟩) L.length ce, .slice (some ⟨gu, 0, none⟩) M.length cu, .slice (some ⟨gb, 0, none⟩) L.length cb] 67 (0, 0))) := heap_alloc_new _ _
  clear hB1 hc hF HC hBc
  unfold cmpV
  go_wp2_with fail
  rename_i K aK
  have HREST : Hid (∀ (gF gT bp : Nat) (wq : World), PC (w1.alloc (.cells #[.slice (some ⟨gf, 0, none⟩) L.length cf, .slice (some ⟨gt, 0, none⟩) M.length ct, .slice (some ⟨ge, 0, none⟩) L.length ce, .slice (some ⟨gu, 0, none⟩) M.length cu, .slice (some ⟨gb, 0, none⟩) L.length cb] 67 (0, 0))) gF gT bp → PA (w1.alloc (.cells #[.slice (some ⟨gf, 0, none⟩) L.length cf, .slice (some ⟨gt, 0, none⟩) M.length ct, .slice (some ⟨ge, 0, none⟩) L.length ce, .slice (some ⟨gu, 0, none⟩) M.length cu, .slice (some ⟨gb, 0, none⟩) L.length cb] 67 (0, 0))) L.length M.length gF gT bp wq (fun _ => 0) (fun _ => 0) →
      K { tmps := #[.slice (some ⟨gf, 0, none⟩) L.length cf, .slice (some ⟨gt, 0, none⟩) M.length ct, undef, undef, .string ⟨#[]⟩, .pointer (some ⟨w1.heap.size, 0, none⟩), .pointer (some ⟨bp, 0, none⟩), undef, .slice (some ⟨gf, 0, none⟩) L.length cf, .slice (some ⟨gt, 0, none⟩) M.length ct, .agg #[.slice (some ⟨gf, 0, none⟩) L.length cf, .slice (some ⟨gt, 0, none⟩) M.length ct, .slice (some ⟨ge, 0, none⟩) L.length ce, .slice (some ⟨gu, 0, none⟩) M.length cu, .slice (some ⟨gb, 0, none⟩) L.length cb], .slice (some ⟨gf, 0, none⟩) L.length cf, .int .i64 (L.length : Int), .slice (some ⟨gF, 0, none⟩) L.length L.length, .slice (some ⟨gt, 0, none⟩) M.length ct, .int .i64 (M.length : Int), .slice (some ⟨gT, 0, none⟩) M.length M.length, .agg #[.slice (some ⟨gF, 0, none⟩) L.length L.length, .slice (some ⟨gT, 0, none⟩) M.length M.length], undef, undef, undef, undef, undef, undef, undef, undef, undef, undef, undef], defers := [] } wq) := fun gF gT bp wq hpc hpa => by
    have hI := unhide HI
    have r1 := root_sub hI.pL
    have r2 := root_sub hI.pM
    have HPB := hide (pairBelow_any L M gf cf gt ct ge ce gu cu gb cb B h F gF gT bp _ (by omega) (by omega) hI.cm hI.f hpc (subE L 0) 0 0 (fun _ => 0) (fun _ => 0) wq (by omega) l3 l4 hpa (fun _ _ _ => rfl) (fun _ _ _ => rfl))
    have hbx := (hpa.base.block w1.heap.size (by rw [unhide HSZ]; omega)).trans (unhide HNEW)
    obtain ⟨c0, c1, c2, c3, c4⟩ := cmp_cells hbx
    have hFl : w1.heap.size < gF := by have := hpc.f; rw [unhide HSZ] at this; omega
    have hTl : w1.heap.size < gT := by have := hpc.t; rw [unhide HSZ] at this; omega
    have HPC := hide hpc
    clear hpa hpc hbx hmk1 hmk2
    unfold cmpV at HPB
    refine aK _ _ ?_
    go_wp2_with fail
    refine (unhide HPB).mono ?_
    rintro e w2 ⟨rfl, ho2, mf, mt, hp2, g1, g2, hpm⟩
    rw [r1, r2] at hpm
    have HDS : Hid (DiffS L M (mk (scriptL (chg L (lbF M mf) (L.length - 1) ++ adds M mt 1 (M.length - 1))))) := ⟨mf, mt, hpm, rfl⟩
    have hsz := script_size l1 l2 hpm hI.pM.labs
    rw [scriptL_app, List.length_append] at hsz
    obtain ⟨p0, p1⟩ := par_cells hp2.box
    have hb2 := hp2.base
    have hbx2 := (hb2.block w1.heap.size (by rw [unhide HSZ]; omega)).trans (unhide HNEW)
    obtain ⟨d0, d1, d2, d3, d4⟩ := cmp_cells hbx2
    have HCH := hide (changes_any L M mf gF gT M.length gf cf gt ct ge ce gu cu gb cb B h F w2 l3 l1 hI.tx (pm_marks hpm l4 (g1 0 (by omega))) (hI.cm.heap hb2) hp2.rF (by omega))
    have HAD : Hid (∀ w3, Below w2.heap.size w2 w3 → Calls Tryz.prog 38 #[parV gF L.length gT M.length, cmpV gf cf L.length gt ct M.length ge ce gu cu gb cb] w3 fun e w' => e = .returned (.string (mk (scriptL (adds M mt 1 (M.length - 1))))) ∧ Below w3.heap.size w3 w') := fun w3 h3 =>
      additions_any L M mt gF gT L.length gf cf gt ct ge ce gu cu gb cb B h F w3 l4 l2 hI.tx hI.pM.prog (hI.cm.heap (hb2.trans (h3.mono hb2.size))) (hp2.rT.of_block (h3.block _ hp2.rT.lt)) (by omega)
    have HP2 := hide hp2
    have HBX2 := hide hbx2
    have hs1 : (mk (scriptL (chg L (lbF M mf) (L.length - 1)))).size ≤ 1000000 := by rw [mk_size]; omega
    have hs2 : (mk (scriptL (adds M mt 1 (M.length - 1)))).size ≤ 1000000 := by rw [mk_size]; omega
    rw [scriptL_app, ← mk_append] at HDS
    clear ho2 hp2 g1 g2 hpm hbx2 c0 c1 c2 c3 c4 hsz hb2
    generalize mk (scriptL (chg L (lbF M mf) (L.length - 1))) = s1 at *
    generalize mk (scriptL (adds M mt 1 (M.length - 1))) = s2 at *
    unfold parV cmpV at HCH HAD
    go_wp2_with fail
    refine (unhide HCH).mono ?_
    rintro e w3 ⟨rfl, hB3⟩
    obtain ⟨p0', p1'⟩ := par_cells ((hB3.block _ (Array.getElem?_eq_some_iff.1 (unhide HP2).box).1).trans (unhide HP2).box)
    obtain ⟨d0', d1', d2', d3', d4'⟩ := cmp_cells ((hB3.block _ (Array.getElem?_eq_some_iff.1 (unhide HBX2)).1).trans (unhide HBX2))
    have HB3 := hide hB3
    clear hB3 p0 p1 d0 d1 d2 d3 d4
    go_wp2_with fail
    refine (unhide HAD _ (unhide HB3)).mono ?_
    rintro e w4 ⟨rfl, hB4⟩
    have HB4 := hide ((unhide HB3).trans (hB4.mono (unhide HB3).size))
    clear hB4
    go_wp2_with fail
    go_ret
    refine ⟨?_, _, rfl, unhide HDS⟩
    have q1 := unhide HB1
    have q2 := (unhide HP2).base
    have q3 := q1.trans (q2.mono q1.size)
    exact q3.trans ((unhide HB4).mono q3.size)
  go_region
  all_goals (refine unhide HREST _ _ _ _ ⟨?_, ?_, ?_, ?_, ?_, ?_⟩ ⟨?_, made_row ?_, made_row ?_, ?_⟩)
  all_goals first
    | exact (three_at _ _ _ _ _ (unhide HSZ)).1
    | exact (three_at _ _ _ _ _ (unhide HSZ)).2.1
    | exact (three_at _ _ _ _ _ (unhide HSZ)).2.2.1
    | exact (three_at _ _ _ _ _ (unhide HSZ)).2.2.2
    | (have := unhide HSZ; omega)

set_option maxHeartbeats 1600000 in
theorem diff_ok (a b : ByteArray) (L M : List Nd) (w : World) (ha : outT a = .ok L) (hb : outT b = .ok M) :
    Calls Tryz.prog 7 #[.string a, .string b] w fun e w' => Below w.heap.size w w' ∧ ∃ d, e = .returned (.tuple #[.string d, .int .i64 0]) ∧ DiffS L M d := by
  have HR := hide (readBoth_ok a b L M w ha hb)
  have HF := hide (fun g1 c1 g2 c2 wx h1 h2 => fewestScript_any a b L M g1 c1 g2 c2 wx ha hb h1 h2)
  clear ha hb
  go_enter Tryz.func7, Tryz.ntmps7
  go_wp2_with fail
  refine (unhide HR).mono ?_
  rintro e w2 ⟨hB2, g1, cap1, g2, cap2, rfl, hn2, hm2⟩
  have HB2 := hide hB2
  have HN2 := hide hn2
  have HM2 := hide hm2
  clear hB2 hn2 hm2 HR
  go_wp2_with fail
  refine (unhide HF _ _ _ _ _ (unhide HN2) (unhide HM2)).mono ?_
  rintro e w3 ⟨hB3, d, rfl, hds⟩
  have HB3 := hide ((unhide HB2).trans (hB3.mono (unhide HB2).size))
  have HDS := hide hds
  clear hB3 hds
  go_wp2_with fail
  go_ret2
  exact ⟨unhide HB3, d, rfl, unhide HDS⟩

set_option maxHeartbeats 1600000 in
theorem diff_err (a b : ByteArray) (w : World) (h : bothC a b ≠ 0) :
    Calls Tryz.prog 7 #[.string a, .string b] w fun e w' => e = .returned (.tuple #[.string ⟨#[]⟩, .int .i64 (bothC a b)]) ∧ Below w.heap.size w w' := by
  have HR := hide (readBoth_err a b w h)
  have hc : (bothC a b != 0) = true := bne_iff_ne.2 h
  clear h
  generalize bothC a b = c at *
  go_enter Tryz.func7, Tryz.ntmps7
  go_wp2_with fail
  refine (unhide HR).mono ?_
  rintro e w1 ⟨rfl, hB⟩
  have HB := hide hB
  clear hB
  go_wp2_with fail
  go_ret2
  exact ⟨rfl, unhide HB⟩

end Go.Proofs.YtdaneedflpfeaaaGreatDoor
