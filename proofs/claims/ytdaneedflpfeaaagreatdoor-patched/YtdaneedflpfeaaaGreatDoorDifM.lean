import Derived.Test.YtdaneedflpfeaaaGreatDoorDifK
namespace Go.Proofs.YtdaneedflpfeaaaGreatDoor
set_option maxRecDepth 100000
open Go.RowKit

theorem par_lt {M : List Nd} (h : Prog M) {l : Nat} (h1 : 1 ≤ l) (hl : l < M.length) : parN M l < l := by
  have hx : M[l]? = some M[l] := List.getElem?_eq_getElem hl
  have hx1 : 1 ≤ (M[l]).depth := h.ge _ (by rw [List.mem_iff_getElem?]; exact ⟨l - 1, by rw [List.getElem?_drop, show 1 + (l - 1) = l by omega]; exact hx⟩)
  obtain ⟨p1, p2, p3⟩ := parG_spec M (M[l]).depth l hl
  have hpe : parN M l = parG M (M[l]).depth l := by rw [parN, dpt, hx]
  rw [hpe]
  rcases Nat.lt_or_ge (parG M (M[l]).depth l) l with q | q
  · exact q
  · have e : parG M (M[l]).depth l = l := by omega
    rw [e] at p3
    rcases p3 with r | r
    · omega
    · have := r _ hx; omega
theorem st_frozen {w : World} {b : Nat} {kd : ByteArray} {x y z : Int} {bb : Bool} {t : ByteArray} {d : Int} (h : w.heap[b]? = some (stO kd x y z bb t d)) (j : Nat) : w.frozen? ⟨b, j, none⟩ = false := frozen_of_row w b j _ _ h
theorem set_two {w : World} {b : Nat} {kd : ByteArray} {x y z v : Int} {bb : Bool} {t : ByteArray} {d : Int} (h : w.heap[b]? = some (stO kd x y z bb t d)) : (w.setCell ⟨b, 2, none⟩ (.int .i64 v)).heap[b]? = some (stO kd x v z bb t d) := by
  unfold stO at h ⊢
  have := heap_setCell_same _ b 2 _ _ (.int .i64 v) h
  rw [this]
  congr 1
theorem set_three {w : World} {b : Nat} {kd : ByteArray} {x y z v : Int} {bb : Bool} {t : ByteArray} {d : Int} (h : w.heap[b]? = some (stO kd x y z bb t d)) : (w.setCell ⟨b, 3, none⟩ (.int .i64 v)).heap[b]? = some (stO kd x y v bb t d) := by
  unfold stO at h ⊢
  have := heap_setCell_same _ b 3 _ _ (.int .i64 v) h
  rw [this]
  congr 1

set_option maxHeartbeats 6400000 in
theorem additions_any (L M : List Nd) (mt : Nat → Nat) (gF gT nF gf cf gt ct ge ce gu cu gb cb B : Nat) (hb : Nat → Nat) (Fb : Nat → Nat → Int) (w : World) (hM0 : 0 < M.length) (hMl : M.length ≤ 80) (hsm : ∀ x ∈ M, x.text.size ≤ 1000000)
    (hP : Prog M) (hc : Cmp w L M gf gt ge gu gb B hb Fb) (hr : w.rowIs gT 3 M.length (intsF mt)) (hsz : (scriptL (adds M mt 1 (M.length - 1))).length ≤ 1000000) :
    Calls Tryz.prog 38 #[parV gF nF gT M.length, cmpV gf cf L.length gt ct M.length ge ce gu cu gb cb] w fun e w' => e = .returned (.string (mk (scriptL (adds M mt 1 (M.length - 1))))) ∧ Below w.heap.size w w' := by
  have HKEY : Hid (∀ wq, Below (w.heap.size + 2) ((w.alloc (parO gF nF gT M.length)).alloc (cmpO gf cf L.length gt ct M.length ge ce gu cu gb cb)) wq → (wq.cell? ⟨w.heap.size, 0, none⟩ = some (.slice (some ⟨gF, 0, none⟩) nF nF) ∧ wq.cell? ⟨w.heap.size, 1, none⟩ = some (.slice (some ⟨gT, 0, none⟩) M.length M.length)) ∧ (wq.cell? ⟨w.heap.size + 1, 0, none⟩ = some (.slice (some ⟨gf, 0, none⟩) L.length cf) ∧ wq.cell? ⟨w.heap.size + 1, 1, none⟩ = some (.slice (some ⟨gt, 0, none⟩) M.length ct) ∧ wq.cell? ⟨w.heap.size + 1, 2, none⟩ = some (.slice (some ⟨ge, 0, none⟩) L.length ce) ∧ wq.cell? ⟨w.heap.size + 1, 3, none⟩ = some (.slice (some ⟨gu, 0, none⟩) M.length cu) ∧ wq.cell? ⟨w.heap.size + 1, 4, none⟩ = some (.slice (some ⟨gb, 0, none⟩) L.length cb)) ∧ NA wq gt 0 M ∧ IA wq gu M.length (subE M) ∧ wq.rowIs gT 3 M.length (intsF mt) ∧ Below w.heap.size w wq) := fun wq hq => by
    obtain ⟨h1, h2, h3⟩ := two_boxes hq
    have hcm := hc.heap h3
    exact ⟨par_cells h1, cmp_cells h2, hcm.to_, hcm.te, hr.of_block (h3.block _ hr.lt), h3⟩
  have HSM := hide hsm
  have HSZ := hide hsz
  have HP := hide hP
  clear hc hr hsm hsz hP
  unfold parO cmpO at HKEY
  unfold parV cmpV
  have HB0 := hide (Below.refl (w.heap.size + 2) ((w.alloc (.cells #[.slice (some ⟨gF, 0, none⟩) nF nF, .slice (some ⟨gT, 0, none⟩) M.length M.length] 70 (0, 0))).alloc (.cells #[.slice (some ⟨gf, 0, none⟩) L.length cf, .slice (some ⟨gt, 0, none⟩) M.length ct, .slice (some ⟨ge, 0, none⟩) L.length ce, .slice (some ⟨gu, 0, none⟩) M.length cu, .slice (some ⟨gb, 0, none⟩) L.length cb] 67 (0, 0))))
  have HW0 : Hid (w.heap.size + 2 ≤ ((w.alloc (.cells #[.slice (some ⟨gF, 0, none⟩) nF nF, .slice (some ⟨gT, 0, none⟩) M.length M.length] 70 (0, 0))).alloc (.cells #[.slice (some ⟨gf, 0, none⟩) L.length cf, .slice (some ⟨gt, 0, none⟩) M.length ct, .slice (some ⟨ge, 0, none⟩) L.length ce, .slice (some ⟨gu, 0, none⟩) M.length cu, .slice (some ⟨gb, 0, none⟩) L.length cb] 67 (0, 0))).heap.size) := by show _ ≤ _; simp
  go_enter Tryz.func38, Tryz.ntmps38
  go_wp2_with fail
  generalize ((w.alloc (.cells #[.slice (some ⟨gF, 0, none⟩) nF nF, .slice (some ⟨gT, 0, none⟩) M.length M.length] 70 (0, 0))).alloc (.cells #[.slice (some ⟨gf, 0, none⟩) L.length cf, .slice (some ⟨gt, 0, none⟩) M.length ct, .slice (some ⟨ge, 0, none⟩) L.length ce, .slice (some ⟨gu, 0, none⟩) M.length cu, .slice (some ⟨gb, 0, none⟩) L.length cb] 67 (0, 0))) = W0 at *
  go_loopw [5, 6, 7, 8] (fun s k _ _ wr => ∃ (n : Nat) (S : List UInt8), 1 ≤ n ∧ n ≤ M.length ∧ k = .int .i64 (n : Int) ∧ s = .string (mk S) ∧ Hid (S ++ scriptL (adds M mt n (M.length - n)) = scriptL (adds M mt 1 (M.length - 1))) ∧ Below (w.heap.size + 2) W0 wr) (fun _ k _ _ _ => M.length - (intOf k).toNat)
  case atStart => exact ⟨1, [], by omega, by omega, by go_num, rfl, rfl, unhide HB0⟩
  case round =>
    obtain ⟨n, S, hn1, hn, rfl, rfl, HE, hB⟩ := hrel
    have hSl : (mk S).size ≤ 1000000 := by rw [mk_size]; have := congrArg List.length (unhide HE); rw [List.length_append] at this; have := unhide HSZ; omega
    obtain ⟨⟨c0, c1⟩, ⟨d0, d1, d2, d3, d4⟩, hM, hU, hr, _⟩ := unhide HKEY _ hB
    have HB := hide hB
    have hszB := hB.size
    have hW0 := unhide HW0
    clear hB
    by_cases hlt : n < M.length
    · obtain ⟨x, hx⟩ : ∃ x, M[n]? = some x := ⟨_, List.getElem?_eq_getElem hlt⟩
      have hxs := unhide HSM x (List.mem_of_getElem? hx)
      have i1 := hr.cell (i := n) hlt
      unfold intsF at i1
      have HAD : Hid (adds M mt n (M.length - n) = stT M mt n ++ adds M mt (n + 1) (M.length - (n + 1))) := by show _ = _; rw [show M.length - n = (M.length - (n + 1)) + 1 by omega, adds]
      by_cases hz : mt n = 0
      · rw [hz] at i1
        have hpl := par_lt (unhide HP) hn1 hlt
        have HST : Hid (stT M mt n = [.ins (parN M n) (cntD x.depth (Dist.sg M (parN M n + 1) n)) (upN M mt (n + 1) (subE M n)) x.inner x.text]) := by show _ = _; rw [stT, if_pos hz, hx]
        have hcl := cntD_le x.depth (Dist.sg M (parN M n + 1) n)
        rw [Dist.sg_len _ _ _ (by omega)] at hcl
        have hul := upN_le M mt (n + 1) (subE M n)
        have hsl := subE_le hlt
        have HPAR : Hid (∀ wx, Below (w.heap.size + 2) W0 wx → Calls Tryz.prog 61 #[.slice (some ⟨gt, 0, none⟩) M.length ct, .int .i64 (n : Int)] wx fun e w' => e = .returned (.int .i64 (parN M n : Int)) ∧ Below wx.heap.size wx w') := fun wx hx => parentOf_any M n gt ct wx (by omega) hlt (unhide HKEY _ hx).2.2.1
        have HSIB : Hid (∀ wx, Below (w.heap.size + 2) W0 wx → Calls Tryz.prog 62 #[.slice (some ⟨gt, 0, none⟩) M.length ct, .int .i64 (parN M n : Int), .int .i64 (n : Int)] wx fun e w' => e = .returned (.int .i64 (cntD x.depth (Dist.sg M (parN M n + 1) n) : Int)) ∧ Below wx.heap.size wx w') := fun wx h => siblings_any M (parN M n) n gt ct x wx (by omega) hlt hpl hx (unhide HKEY _ h).2.2.1
        have HUPP : Hid (∀ wx, Below (w.heap.size + 2) W0 wx → Calls Tryz.prog 63 #[.agg #[.slice (some ⟨gF, 0, none⟩) nF nF, .slice (some ⟨gT, 0, none⟩) M.length M.length], .agg #[.slice (some ⟨gf, 0, none⟩) L.length cf, .slice (some ⟨gt, 0, none⟩) M.length ct, .slice (some ⟨ge, 0, none⟩) L.length ce, .slice (some ⟨gu, 0, none⟩) M.length cu, .slice (some ⟨gb, 0, none⟩) L.length cb], .int .i64 (n : Int)] wx fun e w' => e = .returned (.int .i64 (upN M mt (n + 1) (subE M n) : Int)) ∧ Below wx.heap.size wx w') := fun wx h => upper_any M mt n L.length gF nF gT gf cf gt ct ge ce gu cu gb cb wx (by omega) hlt (unhide HKEY _ h).2.2.2.1 (unhide HKEY _ h).2.2.2.2.1
        have HLD := hide (fun p i c (h1 : p < 100) (h2 : i < 100) (h3 : c < 100) wx => line_ins p i c x.inner x.text x.depth h1 h2 h3 hxs wx)
        have HX := hide hx
        obtain ⟨x0, x1, x2⟩ := hM.cell0 hx
        clear hM hU hr hz hx
        generalize parN M n = p at *
        generalize cntD x.depth (Dist.sg M (p + 1) n) = sib at *
        generalize upN M mt (n + 1) (subE M n) = up at *
        go_wp2_with fail
        refine (unhide HPAR _ (unhide HB)).mono ?_
        rintro e w1 ⟨rfl, hB1⟩
        have HB1 : Hid (Below (w.heap.size + 2) W0 w1) := (unhide HB).trans (hB1.mono (by omega))
        obtain ⟨_, ⟨e0, e1, e2, e3, e4⟩, hM1, _, _, _⟩ := unhide HKEY _ (unhide HB1)
        obtain ⟨x10, x11, x12⟩ := hM1.cell0 (unhide HX)
        have hsz1 := (unhide HB1).size
        clear hB1 hM1
        have hBA : Below (w.heap.size + 2) W0 (w1.alloc (.cells #[.string ⟨#[105]⟩, .int .i64 (p : Int), .int .i64 0, .int .i64 0, .bool x.inner, .string x.text, .int .i64 x.depth] 97 (0, 0))) := (unhide HB1).alloc (by omega) _
        obtain ⟨_, ⟨r0, r1, r2, r3, r4⟩, _, _, _, _⟩ := unhide HKEY _ hBA
        have HBA := hide hBA
        clear hBA
        go_wp2_with fail
        refine (unhide HSIB _ (unhide HBA)).mono ?_
        rintro e w2 ⟨rfl, hB2⟩
        have HB2 : Hid (Below (w.heap.size + 2) W0 w2) := (unhide HBA).trans (hB2.mono (by simp; omega))
        have hsz2 := hB2.size
        have hk2 : w2.heap[w1.heap.size]? = some (stO ⟨#[105]⟩ (p : Int) 0 0 x.inner x.text x.depth) := (hB2.block _ (by simp)).trans (heap_alloc_new _ _)
        have g2 := st_frozen hk2 2
        obtain ⟨q0, q1, q2, q3, q4, q5, q6⟩ := st_seven hk2
        have hk3 := set_two (v := (sib : Int)) hk2
        have hB3 : Below (w.heap.size + 2) W0 (w2.setCell ⟨w1.heap.size, 2, none⟩ (.int .i64 (sib : Int))) := (unhide HB2).setCell (p := ⟨w1.heap.size, 2, none⟩) (by show w.heap.size + 2 ≤ w1.heap.size; omega) _
        obtain ⟨⟨s0, s1⟩, ⟨s2, s3, s4, s5, s6⟩, _, _, _, _⟩ := unhide HKEY _ hB3
        have HB3 := hide hB3
        have HK3 := hide hk3
        clear hB2 hk2 hk3 hB3 r0 r1 r2 r3 r4 e0 e1 e2 e3 e4 x10 x11 x12
        go_wp2_with fail
        refine (unhide HUPP _ (unhide HB3)).mono ?_
        rintro e w4 ⟨rfl, hB4⟩
        have HB4 : Hid (Below (w.heap.size + 2) W0 w4) := (unhide HB3).trans (hB4.mono (by simp at hsz2 ⊢; omega))
        have hk4 := (hB4.block _ (Array.getElem?_eq_some_iff.1 (unhide HK3)).1).trans (unhide HK3)
        have hsz4 := hB4.size
        have g4 := st_frozen hk4 3
        obtain ⟨v0, v1, v2, v3, v4, v5, v6⟩ := st_seven hk4
        have hk5 := set_three (v := (up : Int)) hk4
        obtain ⟨y0, y1, y2, y3, y4, y5, y6⟩ := st_seven hk5
        have HB5 : Hid (Below (w.heap.size + 2) W0 (w4.setCell ⟨w1.heap.size, 3, none⟩ (.int .i64 (up : Int)))) := (unhide HB4).setCell (p := ⟨w1.heap.size, 3, none⟩) (by show w.heap.size + 2 ≤ w1.heap.size; omega) _
        have HE2 : Hid ((S ++ (lineT (.ins p sib up x.inner x.text) ++ [10])) ++ scriptL (adds M mt (n + 1) (M.length - (n + 1))) = scriptL (adds M mt 1 (M.length - 1))) := by
          show _ = _
          rw [← unhide HE, unhide HAD, unhide HST, scriptL_app, script_one, List.append_assoc]
        have hls : (mk (lineT (.ins p sib up x.inner x.text) ++ [10])).size ≤ 1000000 := by
          rw [mk_size]
          have := congrArg List.length (unhide HE2)
          rw [List.length_append, List.length_append] at this
          have := unhide HSZ
          omega
        have HCAT := hide (mk_append S (lineT (.ins p sib up x.inner x.text) ++ [10]))
        have HLD2 := hide (fun wx => unhide HLD p sib up (by omega) (by omega) (by omega) wx)
        clear hB4 hk4 hk5 HK3 s0 s1 s2 s3 s4 s5 s6 q0 q1 q2 q3 q4 q5 q6 HLD HE HST HAD
        generalize mk (lineT (.ins p sib up x.inner x.text) ++ [10]) = ln at *
        go_wp2_with fail
        refine (unhide HLD2 _).mono ?_
        rintro e w6 ⟨rfl, hB6⟩
        have HB6 : Hid (Below (w.heap.size + 2) W0 w6) := (unhide HB5).trans (hB6.mono (by have := (unhide HB5).size; omega))
        clear hB6
        go_wp2_with fail
        go_roundw
        case rel => exact ⟨n + 1, _, by omega, by omega, by go_num, by rw [unhide HCAT], HE2, unhide HB6⟩
        case measure => simp [intOf]; omega
      · have hz' : (((mt n : Nat) : Int) == 0) = false := by simp; omega
        have HE2 : Hid (S ++ scriptL (adds M mt (n + 1) (M.length - (n + 1))) = scriptL (adds M mt 1 (M.length - 1))) := by
          show _ = _
          rw [← unhide HE, unhide HAD, stT, if_neg hz]; rfl
        clear hM hU hr hz hx HE HAD
        go_wp2_with fail
        go_roundw
        case rel => exact ⟨n + 1, S, by omega, by omega, by go_num, rfl, HE2, unhide HB⟩
        case measure => simp [intOf]; omega
    · have HR : Hid (mk S = mk (scriptL (adds M mt 1 (M.length - 1)))) := by show _ = _; rw [← unhide HE, show M.length - n = 0 by omega]; simp [adds, scriptL]
      clear hM hU hr HE
      go_wp2_with fail
      go_ret
      exact ⟨ret_str (unhide HR), (unhide HKEY _ (unhide HB)).2.2.2.2.2⟩

end Go.Proofs.YtdaneedflpfeaaaGreatDoor
