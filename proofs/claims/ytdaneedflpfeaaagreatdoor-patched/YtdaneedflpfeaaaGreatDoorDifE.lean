import Derived.Test.YtdaneedflpfeaaaGreatDoorDifH
namespace Go.Proofs.YtdaneedflpfeaaaGreatDoor
set_option maxRecDepth 100000
open Go.RowKit

set_option maxHeartbeats 1600000 in
theorem parentOf_any (M : List Nd) (k g cap : Nat) (w : World) (hl : M.length ≤ 1000000) (hk : k < M.length) (hn : NA w g 0 M) :
    Calls Tryz.prog 61 #[.slice (some ⟨g, 0, none⟩) M.length cap, .int .i64 (k : Int)] w fun e w' => e = .returned (.int .i64 (parN M k : Int)) ∧ Below w.heap.size w w' := by
  have HN := hide hn
  have hgl := hn.lt
  obtain ⟨y, hy⟩ : ∃ y, M[k]? = some y := ⟨_, List.getElem?_eq_getElem hk⟩
  have HS : Hid (parN M k = parG M y.depth k) := by show parN M k = _; rw [parN, dpt, hy]
  have HY := hide hy
  clear hn hy
  go_enter Tryz.func61, Tryz.ntmps61
  go_wp2_with fail
  go_loopw [5] (fun i wr => ∃ p : Nat, p ≤ k ∧ i = .int .i64 p ∧ Hid (parG M y.depth p = parG M y.depth k) ∧ Below w.heap.size w wr) (fun i _ => (intOf i).toNat)
  case atStart => exact ⟨k, Nat.le_refl _, rfl, rfl, Below.refl _ _⟩
  case round =>
    obtain ⟨p, hp, rfl, HE, hB⟩ := hrel
    have hna := (unhide HN).below hB hgl
    obtain ⟨_, _, k2⟩ := hna.cell0 (unhide HY)
    have HB := hide hB
    by_cases hp0 : p = 0
    · subst hp0
      have HE2 : Hid (parG M y.depth k = 0) := by show _ = _; rw [← unhide HE, parG]
      clear hna hB HE
      go_wp2_with fail
      go_quiet (fail)
      go_wp2_with fail
      go_ret
      exact ⟨ret_int (by rw [unhide HS, unhide HE2]), (unhide HB).trans (below_drewN' _ _ _)⟩
    · obtain ⟨q, rfl⟩ : ∃ q, p = q + 1 := ⟨p - 1, by omega⟩
      have hlt : q + 1 < M.length := by omega
      have hx : M[q + 1]? = some M[q + 1] := List.getElem?_eq_getElem hlt
      obtain ⟨_, _, e2⟩ := hna.cell0 hx
      have HG : Hid (parG M y.depth (q + 1) = if y.depth ≤ (M[q + 1]).depth then parG M y.depth q else q + 1) := by show _ = _; rw [parG, hx]
      clear hna hB hx
      by_cases hd : y.depth ≤ (M[q + 1]).depth
      · have HE2 : Hid (parG M y.depth q = parG M y.depth k) := by show _ = _; rw [← unhide HE, unhide HG, if_pos hd]
        clear HG HE
        generalize (M[q + 1]'hlt) = x at *
        go_wp2_with fail
        go_quiet (fail)
        go_wp2_with fail
        go_roundw
        case rel => exact ⟨q, by omega, by go_num, HE2, (unhide HB).trans (below_drewN' _ _ _)⟩
        case measure => simp [intOf]
      · have HE2 : Hid (parG M y.depth k = q + 1) := by show _ = _; rw [← unhide HE, unhide HG, if_neg hd]
        clear HG HE
        generalize (M[q + 1]'hlt) = x at *
        go_wp2_with fail
        go_quiet (fail)
        go_wp2_with fail
        go_ret
        exact ⟨ret_int (by rw [unhide HS, unhide HE2]; omega), (unhide HB).trans (below_drewN' _ _ _)⟩

theorem cntD_le (D : Int) (l : List Nd) : cntD D l ≤ l.length := List.countP_le_length
theorem sg_snoc {M : List Nd} {a b : Nat} {x : Nd} (h : a ≤ b) (hx : M[b]? = some x) : Dist.sg M a (b + 1) = Dist.sg M a b ++ [x] := by
  rw [Dist.sg_app M a b (b + 1) h (by omega), Dist.sg_cons M b (b + 1) x (by omega) hx, Dist.sg_self]

set_option maxHeartbeats 1600000 in
theorem siblings_any (M : List Nd) (p k g cap : Nat) (y : Nd) (w : World) (hl : M.length ≤ 1000000) (hk : k < M.length) (hp : p < k) (hy : M[k]? = some y) (hn : NA w g 0 M) :
    Calls Tryz.prog 62 #[.slice (some ⟨g, 0, none⟩) M.length cap, .int .i64 (p : Int), .int .i64 (k : Int)] w fun e w' => e = .returned (.int .i64 (cntD y.depth (Dist.sg M (p + 1) k) : Int)) ∧ Below w.heap.size w w' := by
  have HN := hide hn
  have hgl := hn.lt
  have HY := hide hy
  clear hn hy
  go_enter Tryz.func62, Tryz.ntmps62
  go_wp2_with fail
  go_loopw [7, 8] (fun c i wr => ∃ a : Nat, p + 1 ≤ a ∧ a ≤ k ∧ i = .int .i64 a ∧ c = .int .i64 (cntD y.depth (Dist.sg M (p + 1) a) : Int) ∧ Below w.heap.size w wr) (fun _ i _ => k - (intOf i).toNat)
  case atStart => exact ⟨p + 1, Nat.le_refl _, by omega, by go_num, by rw [Dist.sg_self]; rfl, Below.refl _ _⟩
  case round =>
    obtain ⟨a, ha1, ha2, rfl, rfl, hB⟩ := hrel
    have hna := (unhide HN).below hB hgl
    obtain ⟨_, _, k2⟩ := hna.cell0 (unhide HY)
    have HB := hide hB
    have hcl : cntD y.depth (Dist.sg M (p + 1) a) ≤ 1000000 := by have := cntD_le y.depth (Dist.sg M (p + 1) a); rw [Dist.sg_len _ _ _ (by omega)] at this; omega
    by_cases hlt : a < k
    · have hx : M[a]? = some M[a] := List.getElem?_eq_getElem (by omega)
      obtain ⟨_, _, e2⟩ := hna.cell0 hx
      have HC : Hid (cntD y.depth (Dist.sg M (p + 1) (a + 1)) = cntD y.depth (Dist.sg M (p + 1) a) + if (M[a]).depth = y.depth then 1 else 0) := by
        show _ = _
        rw [sg_snoc ha1 hx, cntD_app]
        congr 1
        simp [cntD, List.countP_cons]
      clear hna hB hx
      by_cases hd : (M[a]).depth = y.depth
      · have HC2 : Hid (cntD y.depth (Dist.sg M (p + 1) (a + 1)) = cntD y.depth (Dist.sg M (p + 1) a) + 1) := by show _ = _; rw [unhide HC, if_pos hd]
        have hd' : ((M[a]).depth == y.depth) = true := by simp [hd]
        clear HC hd
        generalize cntD y.depth (Dist.sg M (p + 1) a) = c at *
        generalize (M[a]'(by omega)) = x at *
        go_wp2_with fail
        go_quiet (fail)
        go_wp2_with fail
        go_roundw
        case rel => exact ⟨a + 1, by omega, by omega, by go_num, by rw [unhide HC2]; go_num, (unhide HB).trans (below_drewN' _ _ _)⟩
        case measure => simp [intOf]; omega
      · have HC2 : Hid (cntD y.depth (Dist.sg M (p + 1) (a + 1)) = cntD y.depth (Dist.sg M (p + 1) a)) := by show _ = _; rw [unhide HC, if_neg hd]; rfl
        have hd' : ((M[a]).depth == y.depth) = false := by simp [hd]
        clear HC hd
        generalize cntD y.depth (Dist.sg M (p + 1) a) = c at *
        generalize (M[a]'(by omega)) = x at *
        go_wp2_with fail
        go_quiet (fail)
        go_wp2_with fail
        go_roundw
        case rel => exact ⟨a + 1, by omega, by omega, by go_num, by rw [unhide HC2], (unhide HB).trans (below_drewN' _ _ _)⟩
        case measure => simp [intOf]; omega
    · have hak : a = k := by omega
      subst hak
      clear hna hB
      go_wp2_with fail
      go_ret
      exact ⟨rfl, unhide HB⟩

set_option maxHeartbeats 1600000 in
theorem upper_any (M : List Nd) (mt : Nat → Nat) (l nL gF nF gT gf cf gt ct ge ce gu cu gb cb : Nat) (w : World) (hMl : M.length ≤ 1000) (hl : l < M.length) (hte : IA w gu M.length (subE M)) (hT : w.rowIs gT 3 M.length (intsF mt)) :
    Calls Tryz.prog 63 #[parV gF nF gT M.length, cmpV gf cf nL gt ct M.length ge ce gu cu gb cb, .int .i64 (l : Int)] w fun e w' => e = .returned (.int .i64 (upN M mt (l + 1) (subE M l) : Int)) ∧ Below w.heap.size w w' := by
  have hs := subE_le hl
  have HKEY : Hid (∀ wq, Below (w.heap.size + 2) ((w.alloc (parO gF nF gT M.length)).alloc (cmpO gf cf nL gt ct M.length ge ce gu cu gb cb)) wq → wq.cell? ⟨w.heap.size, 1, none⟩ = some (.slice (some ⟨gT, 0, none⟩) M.length M.length) ∧ wq.cell? ⟨w.heap.size + 1, 3, none⟩ = some (.slice (some ⟨gu, 0, none⟩) M.length cu) ∧ IA wq gu M.length (subE M) ∧ wq.rowIs gT 3 M.length (intsF mt) ∧ Below w.heap.size w wq) := fun wq hq => by
    obtain ⟨h1, h2, h3⟩ := two_boxes hq
    obtain ⟨_, _, _, c3, _⟩ := cmp_cells h2
    exact ⟨(par_cells h1).2, c3, hte.below h3 hte.lt, hT.of_block (h3.block _ hT.lt), h3⟩
  clear hte hT
  unfold parO cmpO at HKEY
  unfold parV cmpV
  have HB0 := hide (Below.refl (w.heap.size + 2) ((w.alloc (.cells #[.slice (some ⟨gF, 0, none⟩) nF nF, .slice (some ⟨gT, 0, none⟩) M.length M.length] 70 (0, 0))).alloc (.cells #[.slice (some ⟨gf, 0, none⟩) nL cf, .slice (some ⟨gt, 0, none⟩) M.length ct, .slice (some ⟨ge, 0, none⟩) nL ce, .slice (some ⟨gu, 0, none⟩) M.length cu, .slice (some ⟨gb, 0, none⟩) nL cb] 67 (0, 0))))
  go_enter Tryz.func63, Tryz.ntmps63
  go_wp2_with fail
  generalize ((w.alloc (.cells #[.slice (some ⟨gF, 0, none⟩) nF nF, .slice (some ⟨gT, 0, none⟩) M.length M.length] 70 (0, 0))).alloc (.cells #[.slice (some ⟨gf, 0, none⟩) nL cf, .slice (some ⟨gt, 0, none⟩) M.length ct, .slice (some ⟨ge, 0, none⟩) nL ce, .slice (some ⟨gu, 0, none⟩) M.length cu, .slice (some ⟨gb, 0, none⟩) nL cb] 67 (0, 0))) = W0 at *
  go_loopw [7, 8] (fun c i wr => ∃ a n : Nat, l < a ∧ a ≤ subE M l ∧ i = .int .i64 (a : Int) ∧ c = .int .i64 (n : Int) ∧ n ≤ a ∧ Hid (n + upN M mt a (subE M l) = upN M mt (l + 1) (subE M l)) ∧ Below (w.heap.size + 2) W0 wr) (fun _ i _ => subE M l - (intOf i).toNat)
  case atStart => exact ⟨l + 1, 0, by omega, by omega, by go_num, rfl, by omega, Nat.zero_add _, unhide HB0⟩
  case round =>
    obtain ⟨a, n, ha1, ha2, rfl, rfl, hn, HE, hB⟩ := hrel
    obtain ⟨c1, c3, hte, hT, _⟩ := unhide HKEY _ hB
    have i1 := hte.at_ l hl
    have HB := hide hB
    clear hB
    by_cases hlt : a < subE M l
    · have i2 := hte.at_ a (by omega)
      have i3 := hT.cell (i := a) (by omega)
      unfold intsF at i3
      have HU := hide (upN.eq_1 M mt a (subE M l))
      have hsa := subE_le (l := M) (k := a) (by omega)
      have hin := (subE_sub (l := M) (k := a) (by omega)).inside (subE_sub hl) ha1 hlt
      clear hte hT
      by_cases hz : mt a = 0
      · rw [hz] at i3
        have HE2 : Hid (n + upN M mt (a + 1) (subE M l) = upN M mt (l + 1) (subE M l)) := by show _ = _; rw [← unhide HE, unhide HU, dif_pos hlt, if_pos hz]
        clear HU HE hz
        go_wp2_with fail
        go_roundw
        case rel => exact ⟨a + 1, n, by omega, by omega, by go_num, rfl, by omega, HE2, unhide HB⟩
        case measure => simp [intOf]; omega
      · have hz' : (((mt a : Nat) : Int) == 0) = false := by simp; omega
        have HE2 : Hid (n + 1 + upN M mt (subE M a) (subE M l) = upN M mt (l + 1) (subE M l)) := by show _ = _; rw [← unhide HE, unhide HU, dif_pos hlt, if_neg hz, dif_pos (by omega)]; omega
        clear HU HE hz
        generalize subE M a = z at *
        go_wp2_with fail
        go_roundw
        case rel => exact ⟨z, n + 1, by omega, by omega, rfl, by go_num, by omega, HE2, unhide HB⟩
        case measure => simp [intOf]; omega
    · have HE2 : Hid (upN M mt (l + 1) (subE M l) = n) := by show _ = _; rw [← unhide HE, upN, dif_neg hlt]; omega
      clear hte hT HE
      go_wp2_with fail
      go_ret
      exact ⟨ret_int (by rw [unhide HE2]), (unhide HKEY _ (unhide HB)).2.2.2.2⟩

end Go.Proofs.YtdaneedflpfeaaaGreatDoor
