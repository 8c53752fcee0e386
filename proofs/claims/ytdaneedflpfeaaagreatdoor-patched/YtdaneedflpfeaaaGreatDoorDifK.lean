import Derived.Test.YtdaneedflpfeaaaGreatDoorDifE
import Derived.Test.YtdaneedflpfeaaaGreatDoorDifF
import Derived.Test.YtdaneedflpfeaaaGreatDoorDifH
import Derived.Test.YtdaneedflpfeaaaGreatDoorDifD
namespace Go.Proofs.YtdaneedflpfeaaaGreatDoor
set_option maxRecDepth 100000
open Go.RowKit

/-! ## The script's two parts -/
theorem mk_empty : mk [] = ⟨#[]⟩ := rfl
theorem script_step {S : List UInt8} {st : List Stp} {r T : List UInt8} (h : S ++ (scriptL st ++ r) = T) : (S ++ scriptL st) ++ r = T := by rw [List.append_assoc]; exact h
theorem script_one (st : Stp) : scriptL [st] = lineT st ++ [10] := by simp [scriptL]
theorem stF_none {L M : List Nd} {mf : Nat → Nat} {k : Nat} (h : mf k = 0) : stF L (lbF M mf) k = [.del k] := by rw [stF, lbF, if_pos h]
theorem stF_some {L M : List Nd} {mf : Nat → Nat} {k : Nat} {x y : Nd} (h : mf k ≠ 0) (hx : L[k]? = some x) (hy : M[mf k]? = some y) : stF L (lbF M mf) k = if lab x = lab y then [] else [.ren k y.inner y.text] := by
  rw [stF, lbF, if_neg h, hx, hy]
  simp only [Option.map_some, Option.some.injEq]
  rfl

/-- What a comparison of two nodes reads. -/
abbrev ChS (b gf cf lf gt ct lt u v : Nat) (x y : Nd) (wq : World) : Prop :=
  wq.cell? ⟨b, 0, none⟩ = some (.slice (some ⟨gf, 0, none⟩) lf cf) ∧ wq.cell? ⟨b, 1, none⟩ = some (.slice (some ⟨gt, 0, none⟩) lt ct) ∧
  wq.cell? ⟨gf, u * 3, none⟩ = some (.bool x.inner) ∧ wq.cell? ⟨gf, u * 3 + 1, none⟩ = some (.string x.text) ∧ wq.cell? ⟨gf, u * 3 + 2, none⟩ = some (.int .i64 x.depth) ∧
  wq.cell? ⟨gt, v * 3, none⟩ = some (.bool y.inner) ∧ wq.cell? ⟨gt, v * 3 + 1, none⟩ = some (.string y.text) ∧ wq.cell? ⟨gt, v * 3 + 2, none⟩ = some (.int .i64 y.depth)

set_option maxHeartbeats 6400000 in
theorem changes_any (L M : List Nd) (mf : Nat → Nat) (gF gT nT gf cf gt ct ge ce gu cu gb cb B : Nat) (hb : Nat → Nat) (Fb : Nat → Nat → Int) (w : World) (hL0 : 0 < L.length) (hLl : L.length ≤ 80) (hsm : ∀ x ∈ M, x.text.size ≤ 1000000)
    (hmf : ∀ k, k < L.length → mf k < M.length) (hc : Cmp w L M gf gt ge gu gb B hb Fb) (hr : w.rowIs gF 3 L.length (intsF mf)) (hsz : (scriptL (chg L (lbF M mf) (L.length - 1))).length ≤ 1000000) :
    Calls Tryz.prog 37 #[parV gF L.length gT nT, cmpV gf cf L.length gt ct M.length ge ce gu cu gb cb] w fun e w' => e = .returned (.string (mk (scriptL (chg L (lbF M mf) (L.length - 1))))) ∧ Below w.heap.size w w' := by
  have HKEY : Hid (∀ wq, Below (w.heap.size + 2) ((w.alloc (parO gF L.length gT nT)).alloc (cmpO gf cf L.length gt ct M.length ge ce gu cu gb cb)) wq → wq.cell? ⟨w.heap.size, 0, none⟩ = some (.slice (some ⟨gF, 0, none⟩) L.length L.length) ∧ (wq.cell? ⟨w.heap.size + 1, 0, none⟩ = some (.slice (some ⟨gf, 0, none⟩) L.length cf) ∧ wq.cell? ⟨w.heap.size + 1, 1, none⟩ = some (.slice (some ⟨gt, 0, none⟩) M.length ct)) ∧ NA wq gf 0 L ∧ NA wq gt 0 M ∧ wq.rowIs gF 3 L.length (intsF mf) ∧ Below w.heap.size w wq) := fun wq hq => by
    obtain ⟨h1, h2, h3⟩ := two_boxes hq
    obtain ⟨c0, c1, _, _, _⟩ := cmp_cells h2
    have hcm := hc.heap h3
    exact ⟨(par_cells h1).1, ⟨c0, c1⟩, hcm.from_, hcm.to_, hr.of_block (h3.block _ hr.lt), h3⟩
  have HMFB := hide hmf
  have HSM := hide hsm
  have HSZ := hide hsz
  clear hc hr hmf hsm hsz
  unfold parO cmpO at HKEY
  unfold parV cmpV
  have HB0 := hide (Below.refl (w.heap.size + 2) ((w.alloc (.cells #[.slice (some ⟨gF, 0, none⟩) L.length L.length, .slice (some ⟨gT, 0, none⟩) nT nT] 70 (0, 0))).alloc (.cells #[.slice (some ⟨gf, 0, none⟩) L.length cf, .slice (some ⟨gt, 0, none⟩) M.length ct, .slice (some ⟨ge, 0, none⟩) L.length ce, .slice (some ⟨gu, 0, none⟩) M.length cu, .slice (some ⟨gb, 0, none⟩) L.length cb] 67 (0, 0))))
  have k0 := (unhide HKEY _ (unhide HB0)).2.1.1
  have HW0 : Hid (w.heap.size + 2 ≤ ((w.alloc (.cells #[.slice (some ⟨gF, 0, none⟩) L.length L.length, .slice (some ⟨gT, 0, none⟩) nT nT] 70 (0, 0))).alloc (.cells #[.slice (some ⟨gf, 0, none⟩) L.length cf, .slice (some ⟨gt, 0, none⟩) M.length ct, .slice (some ⟨ge, 0, none⟩) L.length ce, .slice (some ⟨gu, 0, none⟩) M.length cu, .slice (some ⟨gb, 0, none⟩) L.length cb] 67 (0, 0))).heap.size) := by show _ ≤ _; simp
  go_enter Tryz.func37, Tryz.ntmps37
  go_wp2_with fail
  generalize ((w.alloc (.cells #[.slice (some ⟨gF, 0, none⟩) L.length L.length, .slice (some ⟨gT, 0, none⟩) nT nT] 70 (0, 0))).alloc (.cells #[.slice (some ⟨gf, 0, none⟩) L.length cf, .slice (some ⟨gt, 0, none⟩) M.length ct, .slice (some ⟨ge, 0, none⟩) L.length ce, .slice (some ⟨gu, 0, none⟩) M.length cu, .slice (some ⟨gb, 0, none⟩) L.length cb] 67 (0, 0))) = W0 at *
  go_loopw [5, 6, 7, 8, 9] (fun s k _ _ _ wr => ∃ (n : Nat) (S : List UInt8), n < L.length ∧ k = .int .i64 (n : Int) ∧ s = .string (mk S) ∧ Hid (S ++ scriptL (chg L (lbF M mf) n) = scriptL (chg L (lbF M mf) (L.length - 1))) ∧ Below (w.heap.size + 2) W0 wr) (fun _ k _ _ _ _ => (intOf k).toNat)
  case atStart => exact ⟨L.length - 1, [], by omega, by go_num, rfl, rfl, unhide HB0⟩
  case round =>
    clear k0
    obtain ⟨n, S, hn, rfl, rfl, HE, hB⟩ := hrel
    have hSl : (mk S).size ≤ 1000000 := by rw [mk_size]; have := congrArg List.length (unhide HE); rw [List.length_append] at this; have := unhide HSZ; omega
    obtain ⟨c0, ⟨c1, c2⟩, hL, hM, hr, _⟩ := unhide HKEY _ hB
    have HB := hide hB
    have hszB := hB.size
    have hW0 := unhide HW0
    clear hB
    by_cases hn0 : n = 0
    · subst hn0
      have HR : Hid (mk S = mk (scriptL (chg L (lbF M mf) (L.length - 1)))) := by show _ = _; rw [← unhide HE]; simp [chg, scriptL]
      clear hL hM hr HE
      go_wp2_with fail
      go_ret
      exact ⟨ret_str (unhide HR), (unhide HKEY _ (unhide HB)).2.2.2.2.2⟩
    · obtain ⟨m, rfl⟩ : ∃ m, n = m + 1 := ⟨n - 1, by omega⟩
      have i1 := hr.cell (i := m + 1) hn
      unfold intsF at i1
      have hmb := unhide HMFB (m + 1) hn
      by_cases hz : mf (m + 1) = 0
      · rw [hz] at i1
        have HLD := hide (fun wx => line_del (m + 1) (by omega) wx)
        rw [show ((m + 1 : Nat) : Int) = (m : Int) + 1 by omega] at HLD
        have HE2 : Hid ((S ++ (lineT (.del (m + 1)) ++ [10])) ++ scriptL (chg L (lbF M mf) m) = scriptL (chg L (lbF M mf) (L.length - 1))) := by
          show _ = _
          rw [← unhide HE, chg, stF_none hz, scriptL_app, script_one, List.append_assoc]
        have hls : (mk (lineT (.del (m + 1)) ++ [10])).size ≤ 1000000 := by
          rw [mk_size]
          have := congrArg List.length (unhide HE2)
          rw [List.length_append, List.length_append] at this
          have := unhide HSZ
          omega
        have HCAT := hide (mk_append S (lineT (.del (m + 1)) ++ [10]))
        clear hL hM hr HE hz
        generalize mk (lineT (.del (m + 1)) ++ [10]) = ln at *
        go_wp2_with fail
        refine (unhide HLD _).mono ?_
        rintro e w1 ⟨rfl, hB1⟩
        have HB1 : Hid (Below (w.heap.size + 2) W0 w1) := ((unhide HB).alloc (by omega) _).trans (hB1.mono (by simp; omega))
        clear hB1
        go_wp2_with fail
        go_roundw
        case rel => exact ⟨m, _, by omega, by go_num, by rw [unhide HCAT], HE2, unhide HB1⟩
        case measure => simp [intOf]
      · obtain ⟨x, hx⟩ : ∃ x, L[m + 1]? = some x := ⟨_, List.getElem?_eq_getElem hn⟩
        obtain ⟨y, hy⟩ : ∃ y, M[mf (m + 1)]? = some y := ⟨_, List.getElem?_eq_getElem hmb⟩
        have hz' : (((mf (m + 1) : Nat) : Int) == 0) = false := by simp; omega
        have hys := unhide HSM y (List.mem_of_getElem? hy)
        have HST := hide (stF_some (L := L) (M := M) (mf := mf) hz hx hy)
        have HA := hide (isAlike_any x y)
        have HX := hide hx
        have HY := hide hy
        have HCS : Hid (∀ wq, Below (w.heap.size + 2) W0 wq → ChS (w.heap.size + 1) gf cf L.length gt ct M.length (m + 1) (mf (m + 1)) x y wq) := fun wq hq => by
          obtain ⟨_, ⟨a1, a2⟩, aL, aM, _, _⟩ := unhide HKEY _ hq
          obtain ⟨x0, x1, x2⟩ := aL.cell0 (unhide HX)
          obtain ⟨y0, y1, y2⟩ := aM.cell0 (unhide HY)
          exact ⟨a1, a2, x0, x1, x2, y0, y1, y2⟩
        have HS0 := hide (unhide HCS _ (unhide HB))
        have n1 : (0 : Int) ≤ ((m + 1 : Nat) : Int) := by omega
        have n2 : ((m + 1 : Nat) : Int) < (L.length : Int) := by omega
        have n5 : (0 : Int) ≤ (m : Int) + 1 := by omega
        have n6 : (m : Int) + 1 < (L.length : Int) := by omega
        have n3 : (0 : Int) ≤ ((mf (m + 1) : Nat) : Int) := by omega
        have n4 : ((mf (m + 1) : Nat) : Int) < (M.length : Int) := by omega
        clear hL hM hr hz hx hy c1 c2
        generalize mf (m + 1) = p at *
        by_cases hal : lab x = lab y
        · have hal' : decide (lab x = lab y) = true := by simp [hal]
          rw [hal'] at HA
          have HE2 : Hid (S ++ scriptL (chg L (lbF M mf) m) = scriptL (chg L (lbF M mf) (L.length - 1))) := by
            show _ = _
            rw [← unhide HE, chg, unhide HST, if_pos hal]; rfl
          clear HE HST hal hal'
          go_wp2_with fail
          go_region_held3 (ChS (w.heap.size + 1) gf cf L.length gt ct M.length (m + 1) p x y) (first | exact unhide HS0 | exact unhide HS5) (first | (go_at_call 60; refine (unhide HA _).mono ?_; rintro e w5 ⟨rfl, hB5⟩; have HB5 : Hid (Below (w.heap.size + 2) W0 w5) := ((unhide HB).drew).trans (hB5.mono (by first | omega | (simp; omega))); have HS5 := hide (unhide HCS _ (unhide HB5)); clear hB5))
          go_wp2_with fail
          go_roundw
          case rel => exact ⟨m, S, by omega, by go_num, rfl, HE2, unhide HB5⟩
          case measure => simp [intOf]
        · have hal' : decide (lab x = lab y) = false := by simp [hal]
          rw [hal'] at HA
          have HLD := hide (fun wx => line_ren (m + 1) y.inner y.text y.depth (by omega) hys wx)
          rw [show ((m + 1 : Nat) : Int) = (m : Int) + 1 by omega] at HLD
          have HE2 : Hid ((S ++ (lineT (.ren (m + 1) y.inner y.text) ++ [10])) ++ scriptL (chg L (lbF M mf) m) = scriptL (chg L (lbF M mf) (L.length - 1))) := by
            show _ = _
            rw [← unhide HE, chg, unhide HST, if_neg hal, scriptL_app, script_one, List.append_assoc]
          have hls : (mk (lineT (.ren (m + 1) y.inner y.text) ++ [10])).size ≤ 1000000 := by
            rw [mk_size]
            have := congrArg List.length (unhide HE2)
            rw [List.length_append, List.length_append] at this
            have := unhide HSZ
            omega
          have HCAT := hide (mk_append S (lineT (.ren (m + 1) y.inner y.text) ++ [10]))
          clear HE HST hal hal'
          generalize mk (lineT (.ren (m + 1) y.inner y.text) ++ [10]) = ln at *
          go_wp2_with fail
          go_region_held3 (ChS (w.heap.size + 1) gf cf L.length gt ct M.length (m + 1) p x y) (first | exact unhide HS0 | exact unhide HS5) (first | (go_at_call 60; refine (unhide HA _).mono ?_; rintro e w5 ⟨rfl, hB5⟩; have HB5 : Hid (Below (w.heap.size + 2) W0 w5) := ((unhide HB).drew).trans (hB5.mono (by first | omega | (simp; omega))); have HS5 := hide (unhide HCS _ (unhide HB5)); clear hB5))
          obtain ⟨a1, a2, x0, x1, x2, y0, y1, y2⟩ := unhide HS5
          go_wp2_with fail
          refine (unhide HLD _).mono ?_
          rintro e w1 ⟨rfl, hB1⟩
          have hsz5 := (unhide HB5).size
          have HB1 : Hid (Below (w.heap.size + 2) W0 w1) := ((unhide HB5).alloc (by omega) _).trans (hB1.mono (by simp; omega))
          clear hB1 a1 a2 x0 x1 x2 y0 y1 y2
          go_wp2_with fail
          go_roundw
          case rel => exact ⟨m, _, by omega, by go_num, by rw [unhide HCAT], HE2, unhide HB1⟩
          case measure => simp [intOf]

end Go.Proofs.YtdaneedflpfeaaaGreatDoor
