import Derived.Test.YtdaneedflpfeaabGreatDoorDistF
import Derived.Deep.RegionHeld3
import Derived.Test.YtdaneedflpfeaabGreatDoorOut
namespace Go.Proofs.YtdaneedflpfeaabGreatDoor
set_option maxRecDepth 100000
open Go.RowKit

/-- The comparison, boxed. -/
def cmpO (gf cf lf gt ct lt ge ce gu cu gb cb : Nat) : Obj := .cells #[.slice (some ⟨gf, 0, none⟩) lf cf, .slice (some ⟨gt, 0, none⟩) lt ct, .slice (some ⟨ge, 0, none⟩) lf ce, .slice (some ⟨gu, 0, none⟩) lt cu, .slice (some ⟨gb, 0, none⟩) lf cb] 60 (0, 0)
/-- What a comparison is made of, in memory. -/
structure Cmp (w : World) (L M : List Nd) (gf gt ge gu gb B : Nat) (h : Nat → Nat) (F : Nat → Nat → Int) : Prop where
  from_ : NA w gf 0 L
  to_ : NA w gt 0 M
  fe : IA w ge L.length (subE L)
  te : IA w gu M.length (subE M)
  tab : Tab w B gb L.length M.length h F
theorem Cmp.heap {w w' : World} {L M : List Nd} {gf gt ge gu gb B : Nat} {h : Nat → Nat} {F : Nat → Nat → Int} (c : Cmp w L M gf gt ge gu gb B h F) (hw : Below w.heap.size w w') : Cmp w' L M gf gt ge gu gb B h F :=
  ⟨c.from_.below hw c.from_.lt, c.to_.below hw c.to_.lt, c.fe.below hw c.fe.lt, c.te.below hw c.te.lt, c.tab.all hw⟩
theorem cmp_cells {wq : World} {b : Nat} {gf cf lf gt ct lt ge ce gu cu gb cb : Nat} (hk : wq.heap[b]? = some (cmpO gf cf lf gt ct lt ge ce gu cu gb cb)) :
    wq.cell? ⟨b, 0, none⟩ = some (.slice (some ⟨gf, 0, none⟩) lf cf) ∧ wq.cell? ⟨b, 1, none⟩ = some (.slice (some ⟨gt, 0, none⟩) lt ct) ∧ wq.cell? ⟨b, 2, none⟩ = some (.slice (some ⟨ge, 0, none⟩) lf ce) ∧ wq.cell? ⟨b, 3, none⟩ = some (.slice (some ⟨gu, 0, none⟩) lt cu) ∧ wq.cell? ⟨b, 4, none⟩ = some (.slice (some ⟨gb, 0, none⟩) lf cb) := by
  unfold cmpO at hk
  refine ⟨?_, ?_, ?_, ?_, ?_⟩ <;> (rw [cell_of_row wq b _ _ _ (0, 0) hk]; rfl)
/-- What stepsBelow answers. -/
def StepsR (w : World) (L M : List Nd) (k l : Nat) (e : Ending) (w' : World) : Prop := Below w.heap.size w w' ∧ ∃ g cap h F, e = .returned (.slice (some ⟨g, 0, none⟩) (subE L k - k - 1 + 1) cap) ∧ Tab w' w.heap.size g (subE L k - k - 1 + 1) (subE M l - l - 1 + 1) h F ∧ ∀ i j, i ≤ subE L k - k - 1 → j ≤ subE M l - l - 1 → F i j = vN L M k l i j

set_option maxHeartbeats 3200000 in
set_option maxRecDepth 100000 in
theorem stepsBelow_any (L M : List Nd) (gf cf gt ct ge ce gu cu gb cb B : Nat) (hb : Nat → Nat) (Fb : Nat → Nat → Int) (k l : Nat) (w : World) (hk : k < L.length) (hl : l < M.length) (hLl : L.length ≤ 1000) (hMl : M.length ≤ 1000)
    (hc : Cmp w L M gf gt ge gu gb B hb Fb) (hF : ∀ u v, k < u → u < L.length → l < v → v < M.length → Fb u v = dB L M u v) :
    Calls Tryz.prog 42 #[cmpV gf cf L.length gt ct M.length ge ce gu cu gb cb, .int .i64 (k : Int), .int .i64 (l : Int)] w fun e w' => StepsR w L M k l e w' := by
  have HKEY : Hid (∀ wq : World, Below (w.heap.size + 1) (w.alloc (cmpO gf cf L.length gt ct M.length ge ce gu cu gb cb)) wq → wq.heap[w.heap.size]? = some (cmpO gf cf L.length gt ct M.length ge ce gu cu gb cb) ∧ Cmp wq L M gf gt ge gu gb B hb Fb ∧ Below w.heap.size w wq) := fun wq hq => by
    have hk := (hq.block w.heap.size (by omega)).trans (heap_alloc_new _ _)
    have hB : Below w.heap.size w wq := ((Below.refl w.heap.size w).alloc (Nat.le_refl _) _).trans (hq.mono (by omega))
    exact ⟨hk, hc.heap hB, hB⟩
  have h1 := subE_le hk
  have h2 := subE_le hl
  have HF := hide hF
  have HV0 : Hid (∀ j, j ≤ subE M l - l - 1 → vN L M k l (subE L k - k - 1) j = ((subE M l - l - 1 : Nat) : Int) - j) := fun j hj => by rw [vN_rows hk hl]; omega
  have HV1 : Hid (∀ i, i ≤ subE L k - k - 1 → vN L M k l i (subE M l - l - 1) = ((subE L k - k - 1 : Nat) : Int) - i) := fun j hj => by rw [vN_cols hk hl]; omega
  have HVS := hide (fun i j hi hj h => vN_step (L := L) (M := M) (k := k) (l := l) (i := i) (j := j) hk hl hi hj Fb h)
  have HVB : Hid (∀ i j, 0 ≤ vN L M k l i j ∧ vN L M k l i j ≤ 2000) := fun i j => by have := vN_le (L := L) (M := M) hk hl i j; omega
  have e1 : ((subE L k : Int) - k - 1) = ((subE L k - k - 1 : Nat) : Int) := by omega
  have e2 : ((subE M l : Int) - l - 1) = ((subE M l - l - 1 : Nat) : Int) := by omega
  obtain ⟨hbox, hcm, _⟩ := unhide HKEY _ (Below.refl _ _)
  have cells := cmp_cells hbox
  have i1 := hcm.fe.at_ k hk
  have i2 := hcm.te.at_ l hl
  obtain ⟨c0, c1, c2, c3, c4⟩ := cells
  clear hF hcm hc hbox
  unfold StepsR
  unfold cmpV
  unfold cmpO at *
  have HW0 : Hid ((w.alloc (Obj.cells #[.slice (some ⟨gf, 0, none⟩) L.length cf, .slice (some ⟨gt, 0, none⟩) M.length ct, .slice (some ⟨ge, 0, none⟩) L.length ce, .slice (some ⟨gu, 0, none⟩) M.length cu, .slice (some ⟨gb, 0, none⟩) L.length cb] 60 (0, 0))).heap.size = w.heap.size + 1) := by show _ = _; simp
  have HZ := fun R C h1 h2 h3 => zeros_any R C (w.alloc (Obj.cells #[.slice (some ⟨gf, 0, none⟩) L.length cf, .slice (some ⟨gt, 0, none⟩) M.length ct, .slice (some ⟨ge, 0, none⟩) L.length ce, .slice (some ⟨gu, 0, none⟩) M.length cu, .slice (some ⟨gb, 0, none⟩) L.length cb] 60 (0, 0))) h1 h2 h3
  replace HZ := hide (HZ (subE L k - k - 1 + 1) (subE M l - l - 1 + 1) (by omega) (by omega) (by omega))
  rw [show ((subE L k - k - 1 + 1 : Nat) : Int) = ((subE L k - k - 1 : Nat) : Int) + 1 by omega, show ((subE M l - l - 1 + 1 : Nat) : Int) = ((subE M l - l - 1 : Nat) : Int) + 1 by omega] at HZ
  go_enter Tryz.func42, Tryz.ntmps42
  go_wp2_with fail
  refine (unhide HZ).mono ?_
  rintro e w1 ⟨hB1, g, cap, h, rfl, hT⟩
  clear c0 c1 c2 c3 c4 i1 i2 HZ
  generalize hW0 : w.alloc (Obj.cells #[.slice (some ⟨gf, 0, none⟩) L.length cf, .slice (some ⟨gt, 0, none⟩) M.length ct, .slice (some ⟨ge, 0, none⟩) L.length ce, .slice (some ⟨gu, 0, none⟩) M.length cu, .slice (some ⟨gb, 0, none⟩) L.length cb] 60 (0, 0)) = W0 at *
  rw [unhide HW0] at hB1 hT
  generalize hR : subE L k - k - 1 = R at *
  generalize hC : subE M l - l - 1 = C at *
  have HT := hide hT
  have HB1 := hide hB1
  clear hT hB1 hW0
  go_wp2_with fail
  go_loopw [10, 11, 12, 13, 14, 15] (fun i _ _ _ _ _ wr => ∃ n : Nat, n ≤ R + 1 ∧ i = .int .i64 ((n : Int) - 1) ∧ (∃ F, Tab wr (w.heap.size + 1) g (R + 1) (C + 1) h F ∧ ∀ i j, n ≤ i → i ≤ R → j ≤ C → F i j = vN L M k l i j) ∧ Below (w.heap.size + 1) W0 wr) (fun i _ _ _ _ _ _ => (intOf i + 1).toNat)
  case atStart => exact ⟨R + 1, by omega, by go_num, ⟨_, unhide HT, fun i j h1 h2 _ => by omega⟩, unhide HB1⟩
  case round =>
    obtain ⟨n, hn, rfl, ⟨F, hT, hFV⟩, hB⟩ := hrel
    have HT := hide hT
    have HFV := hide hFV
    have HB := hide hB
    clear hT hFV hB
    by_cases hn0 : n = 0
    · subst hn0
      have HF0 : Hid (∀ i j, i ≤ R → j ≤ C → F i j = vN L M k l i j) := fun i j h1 h2 => unhide HFV i j (Nat.zero_le _) h1 h2
      go_wp2_with fail
      go_ret
      obtain ⟨_, _, hB0⟩ := unhide HKEY _ (unhide HB)
      refine ⟨hB0, g, cap, h, F, by rw [hR]; rfl, ?_, by rw [hR, hC]; exact unhide HF0⟩
      rw [hR, hC]
      exact (unhide HT).mono (by omega)
    · obtain ⟨m, rfl⟩ : ∃ m, n = m + 1 := ⟨n - 1, by omega⟩
      rw [show ((m + 1 : Nat) : Int) - 1 = (m : Int) by omega]
      go_wp2_with fail
      go_loopw [11, 12, 13, 14, 15] (fun j _ _ _ _ wq => ∃ p : Nat, p ≤ C + 1 ∧ j = .int .i64 ((p : Int) - 1) ∧ (∃ F, Tab wq (w.heap.size + 1) g (R + 1) (C + 1) h F ∧ (∀ i j, m + 1 ≤ i → i ≤ R → j ≤ C → F i j = vN L M k l i j) ∧ ∀ j, p ≤ j → j ≤ C → F m j = vN L M k l m j) ∧ Below (w.heap.size + 1) W0 wq) (fun j _ _ _ _ _ => (intOf j + 1).toNat)
      case atStart => exact ⟨C + 1, by omega, by go_num, ⟨F, unhide HT, unhide HFV, fun j h1 h2 => by omega⟩, unhide HB⟩
      case round =>
        obtain ⟨p, hp, rfl, ⟨F2, hT2, hFV2, hFM⟩, hB2⟩ := hrel
        clear HT HFV HB
        have HT := hide hT2
        have HFV := hide hFV2
        have HFM := hide hFM
        have HB := hide hB2
        by_cases hp0 : p = 0
        · subst hp0
          clear hT2 hFV2 hFM hB2
          go_wp2_with fail
          go_roundw
          case rel =>
            refine ⟨m, by omega, by go_num, ⟨F2, unhide HT, fun i j q1 q2 q3 => ?_⟩, unhide HB⟩
            rcases Nat.lt_or_ge m i with q | q
            · exact unhide HFV i j q q2 q3
            · have : i = m := by omega
              subst this
              exact unhide HFM j (Nat.zero_le _) q3
          case measure => simp [intOf]
        · obtain ⟨q, rfl⟩ : ∃ q, p = q + 1 := ⟨p - 1, by omega⟩
          rw [show ((q + 1 : Nat) : Int) - 1 = (q : Int) by omega]
          have o1 := hT2.outer m (by omega)
          have o2 := hT2.cell (r := m) (c := q) (by omega) (by omega)
          have o3 := hT2.frozen (r := m) (c := q) (by omega)
          have HSET : Hid (∀ x : Int, x = vN L M k l m q → (∃ F, Tab (wr.setCell ⟨h m, q, none⟩ (.int .i64 x)) (w.heap.size + 1) g (R + 1) (C + 1) h F ∧ (∀ i j, m + 1 ≤ i → i ≤ R → j ≤ C → F i j = vN L M k l i j) ∧ ∀ j, q ≤ j → j ≤ C → F m j = vN L M k l m j) ∧ Below (w.heap.size + 1) W0 (wr.setCell ⟨h m, q, none⟩ (.int .i64 x))) := fun x hx => by
            refine ⟨⟨_, hT2.set (by omega) x, fun i j a1 a2 a3 => ?_, fun j a1 a2 => ?_⟩, hB2.setCell (p := ⟨h m, q, none⟩) (hT2.rb m (by omega)).1 _⟩
            · rw [if_neg (by omega)]; exact hFV2 i j a1 a2 a3
            · by_cases e : j = q
              · rw [if_pos ⟨rfl, e⟩, e]; exact hx
              · rw [if_neg (by omega)]; exact hFM j (by omega) a2
          by_cases hmR : m = R
          · have hmR' : ((m : Int) == (R : Int)) = true := by simp [hmR]
            have HX : Hid ((C : Int) - q = vN L M k l m q) := by show _ = _; rw [hmR, unhide HV0 q (by omega)]
            have HS1 := hide (unhide HSET _ (unhide HX))
            clear hT2 hFV2 hFM hB2 HSET hmR
            go_wp2_with fail
            go_roundw
            case rel => exact ⟨q, by omega, by go_num, (unhide HS1).1, (unhide HS1).2⟩
            case measure => simp [intOf]
          · have hmR' : ((m : Int) == (R : Int)) = false := by simp; omega
            by_cases hqC : q = C
            · have hqC' : ((q : Int) == (C : Int)) = true := by simp [hqC]
              have HX : Hid ((R : Int) - m = vN L M k l m q) := by show _ = _; rw [hqC, unhide HV1 m (by omega)]
              have HS1 := hide (unhide HSET _ (unhide HX))
              clear hT2 hFV2 hFM hB2 HSET hqC
              go_wp2_with fail
              go_roundw
              case rel => exact ⟨q, by omega, by go_num, (unhide HS1).1, (unhide HS1).2⟩
              case measure => simp [intOf]
            · have hqC' : ((q : Int) == (C : Int)) = false := by simp; omega
              obtain ⟨hstep, hpf, hpt, hpf2, hpt2⟩ := unhide HVS m q (by omega) (by omega) (unhide HF _ _ (by omega) (by omega) (by omega) (by omega))
              obtain ⟨hbox, hcm, _⟩ := unhide HKEY _ hB2
              obtain ⟨c0, c1, c2, c3, c4⟩ := cmp_cells hbox
              have f1 := hcm.fe.at_ (k + 1 + m) (by omega)
              have f2 := hcm.te.at_ (l + 1 + q) (by omega)
              have HPR : Hid (∀ wx, Below (w.heap.size + 1) W0 wx → Calls Tryz.prog 68 #[.agg #[.slice (some ⟨gf, 0, none⟩) L.length cf, .slice (some ⟨gt, 0, none⟩) M.length ct, .slice (some ⟨ge, 0, none⟩) L.length ce, .slice (some ⟨gu, 0, none⟩) M.length cu, .slice (some ⟨gb, 0, none⟩) L.length cb], .int .i64 ((k : Int) + 1 + m), .int .i64 ((l : Int) + 1 + q)] wx fun e w' => e = .returned (.int .i64 (prd Fb L M (k + 1 + m) (l + 1 + q))) ∧ Below wx.heap.size wx w') := fun wx hx => by
                obtain ⟨_, hcm, _⟩ := unhide HKEY _ hx
                have := paired_any L M gf cf gt ct ge ce gu cu gb cb B hb Fb (k + 1 + m) (l + 1 + q) wx (by omega) (by omega) hcm.from_ hcm.to_ hcm.tab (by rw [unhide HF _ _ (by omega) (by omega) (by omega) (by omega)]; have := dN_le L M (k + 1 + m + 1) (subE L (k + 1 + m)) (l + 1 + q + 1) (subE M (l + 1 + q)) (subE_le (by omega)).2 (subE_le (by omega)).2; unfold dB; omega)
                rw [show ((k + 1 + m : Nat) : Int) = (k : Int) + 1 + m by omega, show ((l + 1 + q : Nat) : Int) = (l : Int) + 1 + q by omega] at this
                exact this
              have r1 := hT2.outer (m + 1) (by omega)
              have r2 := hT2.cell (r := m + 1) (c := q) (by omega) (by omega)
              have r3 := hT2.cell (r := m) (c := q + 1) (by omega) (by omega)
              rw [hFV2 (m + 1) q (by omega) (by omega) (by omega)] at r2
              rw [hFM (q + 1) (by omega) (by omega)] at r3
              have v1 := unhide HVB (m + 1) q
              have v2 := unhide HVB m (q + 1)
              have v3 := unhide HVB (subE L (k + 1 + m) - k - 1) (subE M (l + 1 + q) - l - 1)
              have HT2 : Hid (∀ wx, Below wr.heap.size wr wx → wx.cell? ⟨w.heap.size, 2, none⟩ = some (.slice (some ⟨ge, 0, none⟩) L.length ce) ∧ wx.cell? ⟨w.heap.size, 3, none⟩ = some (.slice (some ⟨gu, 0, none⟩) M.length cu) ∧ wx.cell? ⟨ge, k + 1 + m, none⟩ = some (.int .i64 (subE L (k + 1 + m) : Int)) ∧ wx.cell? ⟨gu, l + 1 + q, none⟩ = some (.int .i64 (subE M (l + 1 + q) : Int)) ∧
                  wx.cell? ⟨g, m, none⟩ = some (.slice (some ⟨h m, 0, none⟩) (C + 1) (C + 1)) ∧ wx.cell? ⟨g, subE L (k + 1 + m) - k - 1, none⟩ = some (.slice (some ⟨h (subE L (k + 1 + m) - k - 1), 0, none⟩) (C + 1) (C + 1)) ∧ wx.cell? ⟨h (subE L (k + 1 + m) - k - 1), subE M (l + 1 + q) - l - 1, none⟩ = some (.int .i64 (vN L M k l (subE L (k + 1 + m) - k - 1) (subE M (l + 1 + q) - l - 1))) ∧ wx.cell? ⟨h m, q, none⟩ = some (.int .i64 (F2 m q)) ∧ wx.frozen? ⟨h m, q, none⟩ = false) := fun wx hx => by
                have hBx : Below (w.heap.size + 1) W0 wx := hB2.trans (hx.mono (by have := hB2.size; rw [unhide HW0] at this; exact this))
                obtain ⟨hbox, hcm, _⟩ := unhide HKEY _ hBx
                obtain ⟨_, _, c2, c3, _⟩ := cmp_cells hbox
                have hTx := hT2.all hx
                refine ⟨c2, c3, hcm.fe.at_ (k + 1 + m) (by omega), hcm.te.at_ (l + 1 + q) (by omega), hTx.outer m (by omega), hTx.outer _ (by omega), ?_, hTx.cell (by omega) (by omega), hTx.frozen (by omega)⟩
                rw [hTx.cell (by omega) (by omega), hFV2 _ _ (by omega) hpf (by omega)]
              have HSET2 : Hid (∀ wx, Below wr.heap.size wr wx → ∀ x : Int, x = vN L M k l m q → (∃ F, Tab (wx.drew.setCell ⟨h m, q, none⟩ (.int .i64 x)) (w.heap.size + 1) g (R + 1) (C + 1) h F ∧ (∀ i j, m + 1 ≤ i → i ≤ R → j ≤ C → F i j = vN L M k l i j) ∧ ∀ j, q ≤ j → j ≤ C → F m j = vN L M k l m j) ∧ Below (w.heap.size + 1) W0 (wx.drew.setCell ⟨h m, q, none⟩ (.int .i64 x))) := fun wx hwx x hx => by
                have hBx : Below (w.heap.size + 1) W0 wx := hB2.trans (hwx.mono (by have := hB2.size; rw [unhide HW0] at this; exact this))
                refine ⟨⟨_, ((hT2.all hwx).draw).set (by omega) x, fun i j a1 a2 a3 => ?_, fun j a1 a2 => ?_⟩, hBx.drew.setCell (p := ⟨h m, q, none⟩) (hT2.rb m (by omega)).1 _⟩
                · rw [if_neg (by omega)]; exact hFV2 i j a1 a2 a3
                · by_cases e : j = q
                  · rw [if_pos ⟨rfl, e⟩, e]; exact hx
                  · rw [if_neg (by omega)]; exact hFM j (by omega) a2
              have hne1 : h m ≠ g := (hT2.rb m (by omega)).2
              have hne2 : h m < h (subE L (k + 1 + m) - k - 1) := hT2.inj m _ hpf2 (by omega)
              have hprd : 0 ≤ prd Fb L M (k + 1 + m) (l + 1 + q) ∧ prd Fb L M (k + 1 + m) (l + 1 + q) ≤ 3000 := by
                have b0 := unhide HF (k + 1 + m) (l + 1 + q) (by omega) (by omega) (by omega) (by omega)
                have b1 := dN_le L M (k + 1 + m + 1) (subE L (k + 1 + m)) (l + 1 + q + 1) (subE M (l + 1 + q)) (subE_le (by omega)).2 (subE_le (by omega)).2
                unfold prd
                split
                · next x y _ _ => have := Dist.rel_le (lab x) (lab y); unfold dB at b0; omega
                · omega
              have s1 := subE_le (l := L) (k := k + 1 + m) (by omega)
              have s2 := subE_le (l := M) (k := l + 1 + q) (by omega)
              have e3 : ((subE L (k + 1 + m) : Int) - k - 1) = ((subE L (k + 1 + m) - k - 1 : Nat) : Int) := by omega
              have e4 : ((subE M (l + 1 + q) : Int) - l - 1) = ((subE M (l + 1 + q) - l - 1 : Nat) : Int) := by omega
              have HW : Hid (∀ x : Int, x = min (min (vN L M k l (m + 1) q) (vN L M k l m (q + 1)) + 1) (prd Fb L M (k + 1 + m) (l + 1 + q) + vN L M k l (subE L (k + 1 + m) - k - 1) (subE M (l + 1 + q) - l - 1)) → x = vN L M k l m q) := fun x hx => hx.trans hstep.symm
              clear hT2 hFV2 hFM hB2 hstep hcm hbox hmR hqC
              generalize subE L (k + 1 + m) - k - 1 = pf at *
              generalize subE M (l + 1 + q) - l - 1 = pt at *
              generalize prd Fb L M (k + 1 + m) (l + 1 + q) = pr at *
              generalize vN L M k l (m + 1) q = V1 at *
              generalize vN L M k l m (q + 1) = V2 at *
              generalize vN L M k l pf pt = V3 at *
              go_wp2_with fail
              go_quiet (first | (go_at_call 67; exact Calls.quiet_of_same (least_any _ _ _)))
              obtain ⟨mn, hmn⟩ : ∃ mn, mn = min V1 V2 := ⟨_, rfl⟩
              have hmn2 : 0 ≤ mn ∧ mn ≤ 2000 := by omega
              have HW2 : Hid (∀ x : Int, x = min (mn + 1) (pr + V3) → x = vN L M k l m q) := fun x hx => unhide HW x (by rw [← hmn]; exact hx)
              rw [← hmn] at *
              clear hmn r1 r2 r3 o1 o2 o3
              go_wp2_with fail
              refine (unhide HPR _ ((unhide HB).trans (below_drewN' _ _ _))).mono ?_
              rintro e w5 ⟨rfl, hB5⟩
              have HB5 : Hid (Below wr.heap.size wr w5) := (below_drewN' _ _ _).trans (hB5.mono (by simp))
              obtain ⟨c2, c3, f1, f2, o1, t1, t2, o2, o3⟩ := unhide HT2 _ (unhide HB5)
              have HTAB : Hid (∀ x : Int, x = vN L M k l m q → (∃ F, Tab (w5.drew.setCell ⟨h m, q, none⟩ (.int .i64 x)) (w.heap.size + 1) g (R + 1) (C + 1) h F ∧ (∀ i j, m + 1 ≤ i → i ≤ R → j ≤ C → F i j = vN L M k l i j) ∧ ∀ j, q ≤ j → j ≤ C → F m j = vN L M k l m j) ∧ Below (w.heap.size + 1) W0 (w5.drew.setCell ⟨h m, q, none⟩ (.int .i64 x))) := fun x hx => unhide HSET2 w5 (unhide HB5) x hx
              have HS0 : Hid (w5.drew.cell? ⟨g, m, none⟩ = some (.slice (some ⟨h m, 0, none⟩) (C + 1) (C + 1)) ∧ w5.drew.cell? ⟨g, pf, none⟩ = some (.slice (some ⟨h pf, 0, none⟩) (C + 1) (C + 1)) ∧ w5.drew.cell? ⟨h pf, pt, none⟩ = some (.int .i64 V3)) := ⟨o1, t1, t2⟩
              have HSK : Hid (∀ x, (w5.drew.setCell ⟨h m, q, none⟩ x).cell? ⟨g, m, none⟩ = some (.slice (some ⟨h m, 0, none⟩) (C + 1) (C + 1)) ∧ (w5.drew.setCell ⟨h m, q, none⟩ x).cell? ⟨g, pf, none⟩ = some (.slice (some ⟨h pf, 0, none⟩) (C + 1) (C + 1)) ∧ (w5.drew.setCell ⟨h m, q, none⟩ x).cell? ⟨h pf, pt, none⟩ = some (.int .i64 V3)) := fun x =>
                ⟨(cell_heap (Below.heap_setCell _ _ _ _ (fun e => hne1 e.symm))).trans o1, (cell_heap (Below.heap_setCell _ _ _ _ (fun e => hne1 e.symm))).trans t1, (cell_heap (Below.heap_setCell _ _ _ _ (by show h pf ≠ h m; omega))).trans t2⟩
              clear hB5 c0 c1 c4
              go_wp2_with fail
              have n0 : (0 : Int) ≤ (m : Int) ∧ (0 : Int) ≤ (q : Int) ∧ (0 : Int) ≤ (pf : Int) ∧ (0 : Int) ≤ (pt : Int) := by omega
              obtain ⟨n1, n2, n3, n4⟩ := n0
              have n5 : (m : Int) < (R : Int) + 1 := by omega
              have n6 : (q : Int) < (C : Int) + 1 := by omega
              have n7 : (pf : Int) < (R : Int) + 1 := by omega
              have n8 : (pt : Int) < (C : Int) + 1 := by omega
              go_region_held3 (fun wq => wq.cell? ⟨g, m, none⟩ = some (.slice (some ⟨h m, 0, none⟩) (C + 1) (C + 1)) ∧ wq.cell? ⟨g, pf, none⟩ = some (.slice (some ⟨h pf, 0, none⟩) (C + 1) (C + 1)) ∧ wq.cell? ⟨h pf, pt, none⟩ = some (.int .i64 V3)) (first | exact unhide HS0 | exact unhide HSK _) (first | (go_at_call 67; refine (least_any _ _ _).mono ?_; rintro e w1 ⟨rfl, hw⟩; have hw := hw.symm; subst hw))
              all_goals go_wp2_with fail
              all_goals go_roundw
              all_goals first
                | exact ⟨q, by omega, by go_num, (unhide HTAB _ (unhide HW2 _ rfl)).1, (unhide HTAB _ (unhide HW2 _ rfl)).2⟩
                | simp [intOf]

end Go.Proofs.YtdaneedflpfeaabGreatDoor

namespace Go.Proofs.YtdaneedflpfeaabGreatDoor
set_option maxRecDepth 100000
open Go.RowKit

theorem Cmp.set {w : World} {L M : List Nd} {gf gt ge gu gb B : Nat} {h : Nat → Nat} {F : Nat → Nat → Int} (c : Cmp w L M gf gt ge gu gb B h F) (h1 : gf < B) (h2 : gt < B) (h3 : ge < B) (h4 : gu < B) {i j : Nat} (hi : i < L.length) (v : Int) :
    Cmp (w.setCell ⟨h i, j, none⟩ (.int .i64 v)) L M gf gt ge gu gb B h (fun r s => if r = i ∧ s = j then v else F r s) := by
  have hb := (c.tab.rb i hi).1
  have hB : Below B w (w.setCell ⟨h i, j, none⟩ (.int .i64 v)) := (Below.refl B w).setCell (p := ⟨h i, j, none⟩) hb _
  exact ⟨c.from_.below hB h1, c.to_.below hB h2, c.fe.below hB h3, c.te.below hB h4, c.tab.set hi v⟩
theorem Cmp.draw {w : World} {L M : List Nd} {gf gt ge gu gb B : Nat} {h : Nat → Nat} {F : Nat → Nat → Int} (c : Cmp w L M gf gt ge gu gb B h F) : Cmp w.drew L M gf gt ge gu gb B h F :=
  ⟨⟨c.from_.lt, c.from_.at_⟩, ⟨c.to_.lt, c.to_.at_⟩, ⟨c.fe.lt, c.fe.at_⟩, ⟨c.te.lt, c.te.at_⟩, c.tab.draw⟩
theorem box_set {w : World} {b : Nat} {cs : Array Value} {t : TypeId} (h : w.heap[b]? = some (.cells cs t (0, 0))) (i : Nat) (v : Value) : (w.setCell ⟨b, i, none⟩ v).heap[b]? = some (.cells (cs.setIfInBounds i v) t (0, 0)) := by
  simp [World.setCell, Array.getElem?_modify, h]
theorem box_cell {w : World} {b : Nat} {cs : Array Value} {t : TypeId} (h : w.heap[b]? = some (.cells cs t (0, 0))) (i : Nat) : w.cell? ⟨b, i, none⟩ = cs[i]? ∧ w.frozen? ⟨b, i, none⟩ = false := by
  constructor
  · exact cell_of_row w b i cs t (0, 0) h
  · simp [World.frozen?, h]
theorem own_form {w : World} {base n : Nat} {e : TypeId} {size : Nat} {v : Value} {xs : List Value} (h : w.ownsRow base e size v n xs) (hn : 0 < n) : ∃ g cap, v = .slice (some ⟨g, 0, none⟩) n cap ∧ g < w.heap.size := by
  rcases h.2 with ⟨_, h0⟩ | ⟨g, cap, cur, rfl, _, hg, _⟩
  · omega
  · exact ⟨g, cap, rfl, (Array.getElem?_eq_some_iff.1 hg).1⟩
/-- What compare answers. -/
def CompR (w : World) (L M : List Nd) (gf cf gt ct : Nat) (e : Ending) (w' : World) : Prop := Below w.heap.size w w' ∧ ∃ ge ce gu cu gb cb B h F, e = .returned (cmpV gf cf L.length gt ct M.length ge ce gu cu gb cb) ∧ Cmp w' L M gf gt ge gu gb B h F ∧ ∀ u v, u < L.length → v < M.length → F u v = dB L M u v

theorem Cmp.but {w w' : World} {b : Nat} {L M : List Nd} {gf gt ge gu gb B : Nat} {h : Nat → Nat} {F : Nat → Nat → Int} (c : Cmp w L M gf gt ge gu gb B h F) (hw : ∀ i, i ≠ b → w'.heap[i]? = w.heap[i]?) (hs : w'.heap.size = w.heap.size)
    (h1 : gf ≠ b) (h2 : gt ≠ b) (h3 : ge ≠ b) (h4 : gu ≠ b) (h5 : b < B) : Cmp w' L M gf gt ge gu gb B h F where
  from_ := c.from_.heap (hw _ h1)
  to_ := c.to_.heap (hw _ h2)
  fe := ⟨by rw [hs]; exact c.fe.lt, fun j hj => (cell_heap (hw ge h3)).trans (c.fe.at_ j hj)⟩
  te := ⟨by rw [hs]; exact c.te.lt, fun j hj => (cell_heap (hw gu h4)).trans (c.te.at_ j hj)⟩
  tab := ⟨c.tab.base, by rw [hs]; exact c.tab.lt, fun r hr => (cell_heap (hw gb (by have := c.tab.base; omega))).trans (c.tab.outer r hr), fun r hr => (c.tab.row r hr).of_block (hw _ (by have := (c.tab.rb r hr).1; omega)), c.tab.rb, c.tab.inj⟩
theorem set5 {w : World} {b : Nat} {c0 c1 c2 c3 c4 : Value} {T : TypeId} (v0 v1 v2 v3 v4 : Value) (h : w.heap[b]? = some (.cells #[c0, c1, c2, c3, c4] T (0, 0))) :
    (((((w.setCell ⟨b, 0, none⟩ v0).setCell ⟨b, 1, none⟩ v1).setCell ⟨b, 2, none⟩ v2).setCell ⟨b, 3, none⟩ v3).setCell ⟨b, 4, none⟩ v4).heap[b]? = some (.cells #[v0, v1, v2, v3, v4] T (0, 0)) := by
  have h0 := box_set h 0 v0
  have h1 := box_set h0 1 v1
  have h2 := box_set h1 2 v2
  have h3 := box_set h2 3 v3
  exact box_set h3 4 v4
theorem set5_other (w : World) (b : Nat) (v0 v1 v2 v3 v4 : Value) (i : Nat) (hi : i ≠ b) :
    (((((w.setCell ⟨b, 0, none⟩ v0).setCell ⟨b, 1, none⟩ v1).setCell ⟨b, 2, none⟩ v2).setCell ⟨b, 3, none⟩ v3).setCell ⟨b, 4, none⟩ v4).heap[i]? = w.heap[i]? := by
  rw [Below.heap_setCell _ _ _ _ hi, Below.heap_setCell _ _ _ _ hi, Below.heap_setCell _ _ _ _ hi, Below.heap_setCell _ _ _ _ hi, Below.heap_setCell _ _ _ _ hi]
theorem Tryz.infoCmp1 : (Tryz.prog.info? 60).map (·.size) = some 5 := by kernel_rfl
/-- What holds in its rounds. -/
structure LoopC (w wr : World) (L M : List Nd) (gf cf gt ct ge ce gu cu gb cb B : Nat) (h : Nat → Nat) (P : (Nat → Nat → Int) → Prop) : Prop where
  cmp : ∃ F, Cmp wr L M gf gt ge gu gb B h F ∧ P F
  box : wr.heap[w.heap.size + 1]? = some (.cells #[.slice (some ⟨gf, 0, none⟩) L.length cf, .slice (some ⟨gt, 0, none⟩) M.length ct, .slice (some ⟨ge, 0, none⟩) L.length ce, .slice (some ⟨gu, 0, none⟩) M.length cu, .slice (some ⟨gb, 0, none⟩) L.length cb] 60 (0, 0))
  out : wr.heap[w.heap.size]? = some (.cells #[.slice none 0 0, .slice none 0 0, .slice none 0 0, .slice none 0 0, .slice none 0 0] 60 (0, 0))
  bel : Below w.heap.size w wr
set_option maxHeartbeats 3200000 in
set_option maxRecDepth 100000 in
theorem compare_any (L M : List Nd) (gf cf gt ct : Nat) (w : World) (hL0 : 0 < L.length) (hM0 : 0 < M.length) (hLl : L.length ≤ 1000) (hMl : M.length ≤ 1000) (hL : NA w gf 0 L) (hM : NA w gt 0 M) :
    Calls Tryz.prog 24 #[.slice (some ⟨gf, 0, none⟩) L.length cf, .slice (some ⟨gt, 0, none⟩) M.length ct] w fun e w' => CompR w L M gf cf gt ct e w' := by
  unfold CompR
  have HN := hide hL
  have HM := hide hM
  have hfl := hL.lt
  have htl := hM.lt
  clear hL hM
  have HW1 : Hid (Below w.heap.size w ((w.alloc (.cells #[.slice none 0 0, .slice none 0 0, .slice none 0 0, .slice none 0 0, .slice none 0 0] 60 (0, 0))).alloc (.cells #[.slice (some ⟨gf, 0, none⟩) L.length cf, .slice (some ⟨gt, 0, none⟩) M.length ct, .slice none 0 0, .slice none 0 0, .slice none 0 0] 60 (0, 0))) ∧ ((w.alloc (.cells #[.slice none 0 0, .slice none 0 0, .slice none 0 0, .slice none 0 0, .slice none 0 0] 60 (0, 0))).alloc (.cells #[.slice (some ⟨gf, 0, none⟩) L.length cf, .slice (some ⟨gt, 0, none⟩) M.length ct, .slice none 0 0, .slice none 0 0, .slice none 0 0] 60 (0, 0))).heap.size = w.heap.size + 2 ∧
      ((w.alloc (.cells #[.slice none 0 0, .slice none 0 0, .slice none 0 0, .slice none 0 0, .slice none 0 0] 60 (0, 0))).alloc (.cells #[.slice (some ⟨gf, 0, none⟩) L.length cf, .slice (some ⟨gt, 0, none⟩) M.length ct, .slice none 0 0, .slice none 0 0, .slice none 0 0] 60 (0, 0))).heap[w.heap.size + 1]? = some (.cells #[.slice (some ⟨gf, 0, none⟩) L.length cf, .slice (some ⟨gt, 0, none⟩) M.length ct, .slice none 0 0, .slice none 0 0, .slice none 0 0] 60 (0, 0)) ∧
      ((w.alloc (.cells #[.slice none 0 0, .slice none 0 0, .slice none 0 0, .slice none 0 0, .slice none 0 0] 60 (0, 0))).alloc (.cells #[.slice (some ⟨gf, 0, none⟩) L.length cf, .slice (some ⟨gt, 0, none⟩) M.length ct, .slice none 0 0, .slice none 0 0, .slice none 0 0] 60 (0, 0))).heap[w.heap.size]? = some (.cells #[.slice none 0 0, .slice none 0 0, .slice none 0 0, .slice none 0 0, .slice none 0 0] 60 (0, 0))) := by
    refine ⟨((Below.refl _ _).alloc (Nat.le_refl _) _).alloc (by simp) _, by simp, ?_, ?_⟩
    · have := heap_alloc_new (w.alloc (.cells #[.slice none 0 0, .slice none 0 0, .slice none 0 0, .slice none 0 0, .slice none 0 0] 60 (0, 0))) (.cells #[.slice (some ⟨gf, 0, none⟩) L.length cf, .slice (some ⟨gt, 0, none⟩) M.length ct, .slice none 0 0, .slice none 0 0, .slice none 0 0] 60 (0, 0))
      simpa using this
    · rw [Below.heap_alloc _ _ _ (by simp)]; exact heap_alloc_new _ _
  go_enter Tryz.func24, Tryz.ntmps24
  go_wp2_with fail
  generalize ((w.alloc (.cells #[.slice none 0 0, .slice none 0 0, .slice none 0 0, .slice none 0 0, .slice none 0 0] 60 (0, 0))).alloc (.cells #[.slice (some ⟨gf, 0, none⟩) L.length cf, .slice (some ⟨gt, 0, none⟩) M.length ct, .slice none 0 0, .slice none 0 0, .slice none 0 0] 60 (0, 0))) = W1 at *
  obtain ⟨b1, z1, x1, y1⟩ := unhide HW1
  refine (subtreeEnds_any L gf cf W1 (by omega) ((unhide HN).below b1 hfl)).mono ?_
  rintro e w2 ⟨hB2, v2, rfl, hown2⟩
  obtain ⟨ge, ce, rfl, hge⟩ := own_form hown2 hL0
  have x2 := (hB2.block _ (by omega)).trans x1
  have y2 := (hB2.block _ (by omega)).trans y1
  have hge2 : w.heap.size + 2 ≤ ge := by have := (hown2.lt ge rfl).1; omega
  obtain ⟨k2, f2⟩ := box_cell x2 2
  have HB2 : Hid (Below w.heap.size w (w2.setCell ⟨w.heap.size + 1, 2, none⟩ (.slice (some ⟨ge, 0, none⟩) L.length ce))) := (b1.trans (hB2.mono (by omega))).setCell (p := ⟨w.heap.size + 1, 2, none⟩) (by show w.heap.size ≤ w.heap.size + 1; omega) _
  have HX2 : Hid ((w2.setCell ⟨w.heap.size + 1, 2, none⟩ (.slice (some ⟨ge, 0, none⟩) L.length ce)).heap[w.heap.size + 1]? = some (.cells #[.slice (some ⟨gf, 0, none⟩) L.length cf, .slice (some ⟨gt, 0, none⟩) M.length ct, .slice (some ⟨ge, 0, none⟩) L.length ce, .slice none 0 0, .slice none 0 0] 60 (0, 0)) ∧ (w2.setCell ⟨w.heap.size + 1, 2, none⟩ (.slice (some ⟨ge, 0, none⟩) L.length ce)).heap[w.heap.size]? = some (.cells #[.slice none 0 0, .slice none 0 0, .slice none 0 0, .slice none 0 0, .slice none 0 0] 60 (0, 0)) ∧ (w2.setCell ⟨w.heap.size + 1, 2, none⟩ (.slice (some ⟨ge, 0, none⟩) L.length ce)).heap.size = w2.heap.size) :=
    ⟨box_set x2 2 _, (Below.heap_setCell _ _ _ _ (by show w.heap.size ≠ w.heap.size + 1; omega)).trans y2, Go.Deep.nblk_setCell _ _ _⟩
  have HI2 : Hid (IA (w2.setCell ⟨w.heap.size + 1, 2, none⟩ (.slice (some ⟨ge, 0, none⟩) L.length ce)) ge L.length (subE L)) := by
    have h := IA.of_own hown2 hge
    exact ⟨by rw [Go.Deep.nblk_setCell]; exact h.lt, fun j hj => (cell_heap (Below.heap_setCell _ _ _ _ (by show ge ≠ w.heap.size + 1; omega))).trans (h.at_ j hj)⟩
  have k2' : w2.cell? ⟨w.heap.size + 1, 2, none⟩ = some (.slice none 0 0) := k2
  clear hB2 hown2 x2 y2 x1 y1 b1 k2 HW1
  go_wp2_with fail
  have hs2 : w.heap.size + 2 ≤ (w2.setCell ⟨w.heap.size + 1, 2, none⟩ (.slice (some ⟨ge, 0, none⟩) L.length ce)).heap.size := by rw [(unhide HX2).2.2]; omega
  clear k2' f2
  generalize (w2.setCell ⟨w.heap.size + 1, 2, none⟩ (.slice (some ⟨ge, 0, none⟩) L.length ce)) = W2 at *
  obtain ⟨x2, y2, _⟩ := unhide HX2
  refine (subtreeEnds_any M gt ct W2 (by omega) ((unhide HM).below (unhide HB2) htl)).mono ?_
  rintro e w3 ⟨hB3, v3, rfl, hown3⟩
  obtain ⟨gu, cu, rfl, hgu⟩ := own_form hown3 hM0
  have x3 := (hB3.block _ (by omega)).trans x2
  have y3 := (hB3.block _ (by omega)).trans y2
  have hgu2 : W2.heap.size ≤ gu := (hown3.lt gu rfl).1
  obtain ⟨k3, f3⟩ := box_cell x3 3
  have HB3 : Hid (Below w.heap.size w (w3.setCell ⟨w.heap.size + 1, 3, none⟩ (.slice (some ⟨gu, 0, none⟩) M.length cu))) := ((unhide HB2).trans (hB3.mono (by omega))).setCell (p := ⟨w.heap.size + 1, 3, none⟩) (by show w.heap.size ≤ w.heap.size + 1; omega) _
  have HX3 : Hid ((w3.setCell ⟨w.heap.size + 1, 3, none⟩ (.slice (some ⟨gu, 0, none⟩) M.length cu)).heap[w.heap.size + 1]? = some (.cells #[.slice (some ⟨gf, 0, none⟩) L.length cf, .slice (some ⟨gt, 0, none⟩) M.length ct, .slice (some ⟨ge, 0, none⟩) L.length ce, .slice (some ⟨gu, 0, none⟩) M.length cu, .slice none 0 0] 60 (0, 0)) ∧ (w3.setCell ⟨w.heap.size + 1, 3, none⟩ (.slice (some ⟨gu, 0, none⟩) M.length cu)).heap[w.heap.size]? = some (.cells #[.slice none 0 0, .slice none 0 0, .slice none 0 0, .slice none 0 0, .slice none 0 0] 60 (0, 0))) :=
    ⟨box_set x3 3 _, (Below.heap_setCell _ _ _ _ (by show w.heap.size ≠ w.heap.size + 1; omega)).trans y3⟩
  have HI3 : Hid (IA (w3.setCell ⟨w.heap.size + 1, 3, none⟩ (.slice (some ⟨gu, 0, none⟩) M.length cu)) gu M.length (subE M)) := by
    have h := IA.of_own hown3 hgu
    exact ⟨by rw [Go.Deep.nblk_setCell]; exact h.lt, fun j hj => (cell_heap (Below.heap_setCell _ _ _ _ (by show gu ≠ w.heap.size + 1; omega))).trans (h.at_ j hj)⟩
  have HI2' : Hid (IA (w3.setCell ⟨w.heap.size + 1, 3, none⟩ (.slice (some ⟨gu, 0, none⟩) M.length cu)) ge L.length (subE L)) := by
    have h := (unhide HI2).below hB3 (unhide HI2).lt
    exact ⟨by rw [Go.Deep.nblk_setCell]; exact h.lt, fun j hj => (cell_heap (Below.heap_setCell _ _ _ _ (by show ge ≠ w.heap.size + 1; omega))).trans (h.at_ j hj)⟩
  have hs3 : w.heap.size + 2 ≤ (w3.setCell ⟨w.heap.size + 1, 3, none⟩ (.slice (some ⟨gu, 0, none⟩) M.length cu)).heap.size := by rw [Go.Deep.nblk_setCell]; have := hB3.size; omega
  have k3' : w3.cell? ⟨w.heap.size + 1, 3, none⟩ = some (.slice none 0 0) := k3
  have hgel : ge < (w3.setCell ⟨w.heap.size + 1, 3, none⟩ (.slice (some ⟨gu, 0, none⟩) M.length cu)).heap.size := (unhide HI2').lt
  have hgul : gu < (w3.setCell ⟨w.heap.size + 1, 3, none⟩ (.slice (some ⟨gu, 0, none⟩) M.length cu)).heap.size := (unhide HI3).lt
  clear hB3 hown3 x3 y3 x2 y2 k3 HX2 HB2 HI2
  go_wp2_with fail
  clear k3' f3
  generalize (w3.setCell ⟨w.heap.size + 1, 3, none⟩ (.slice (some ⟨gu, 0, none⟩) M.length cu)) = W3 at *
  obtain ⟨x3, y3⟩ := unhide HX3
  refine (zeros_any L.length M.length W3 (by omega) (by omega) hL0).mono ?_
  rintro e w4 ⟨hB4, gb, cb, h, rfl, hT4⟩
  have x4 := (hB4.block _ (by omega)).trans x3
  have y4 := (hB4.block _ (by omega)).trans y3
  obtain ⟨k4, f4⟩ := box_cell x4 4
  have k4' : w4.cell? ⟨w.heap.size + 1, 4, none⟩ = some (.slice none 0 0) := k4
  have b4 : Below w.heap.size w w4 := (unhide HB3).trans (hB4.mono (by omega))
  have HCM : Hid (Cmp (w4.setCell ⟨w.heap.size + 1, 4, none⟩ (.slice (some ⟨gb, 0, none⟩) L.length cb)) L M gf gt ge gu gb W3.heap.size h (fun _ _ => 0)) := by
    have hbb : Below (w.heap.size + 1) w4 (w4.setCell ⟨w.heap.size + 1, 4, none⟩ (.slice (some ⟨gb, 0, none⟩) L.length cb)) := (Below.refl _ _).setCell (p := ⟨w.heap.size + 1, 4, none⟩) (Nat.le_refl _) _
    have nb := fun i (hi : i ≠ w.heap.size + 1) => Below.heap_setCell w4 ⟨w.heap.size + 1, 4, none⟩ (.slice (some ⟨gb, 0, none⟩) L.length cb) i hi
    refine ⟨((unhide HN).below b4 hfl).below hbb (by omega), ((unhide HM).below b4 htl).below hbb (by omega), ?_, ?_, ?_⟩
    · have h := (unhide HI2').below hB4 hgel
      exact ⟨by rw [Go.Deep.nblk_setCell]; exact h.lt, fun j hj => (cell_heap (nb ge (by omega))).trans (h.at_ j hj)⟩
    · have h := (unhide HI3).below hB4 hgul
      exact ⟨by rw [Go.Deep.nblk_setCell]; exact h.lt, fun j hj => (cell_heap (nb gu (by omega))).trans (h.at_ j hj)⟩
    · exact ⟨hT4.base, by rw [Go.Deep.nblk_setCell]; exact hT4.lt, fun r hr => (cell_heap (nb gb (by have := hT4.base; omega))).trans (hT4.outer r hr), fun r hr => (hT4.row r hr).of_block (nb _ (by have := (hT4.rb r hr).1; omega)), hT4.rb, hT4.inj⟩
  have HX4 : Hid ((w4.setCell ⟨w.heap.size + 1, 4, none⟩ (.slice (some ⟨gb, 0, none⟩) L.length cb)).heap[w.heap.size + 1]? = some (.cells #[.slice (some ⟨gf, 0, none⟩) L.length cf, .slice (some ⟨gt, 0, none⟩) M.length ct, .slice (some ⟨ge, 0, none⟩) L.length ce, .slice (some ⟨gu, 0, none⟩) M.length cu, .slice (some ⟨gb, 0, none⟩) L.length cb] 60 (0, 0)) ∧ (w4.setCell ⟨w.heap.size + 1, 4, none⟩ (.slice (some ⟨gb, 0, none⟩) L.length cb)).heap[w.heap.size]? = some (.cells #[.slice none 0 0, .slice none 0 0, .slice none 0 0, .slice none 0 0, .slice none 0 0] 60 (0, 0))) :=
    ⟨box_set x4 4 _, (Below.heap_setCell _ _ _ _ (by show w.heap.size ≠ w.heap.size + 1; omega)).trans y4⟩
  have HB4 : Hid (Below w.heap.size w (w4.setCell ⟨w.heap.size + 1, 4, none⟩ (.slice (some ⟨gb, 0, none⟩) L.length cb))) := b4.setCell (p := ⟨w.heap.size + 1, 4, none⟩) (by show w.heap.size ≤ w.heap.size + 1; omega) _
  clear hB4 hT4 x4 y4 x3 y3 k4 b4 HI2' HI3 HX3 HB3 HN HM
  go_wp2_with fail
  clear k4' f4
  generalize (w4.setCell ⟨w.heap.size + 1, 4, none⟩ (.slice (some ⟨gb, 0, none⟩) L.length cb)) = W4 at *
  go_loopw [6, 7, 8] (fun i _ _ wr => ∃ n : Nat, n ≤ L.length ∧ i = .int .i64 ((n : Int) - 1) ∧ LoopC w wr L M gf cf gt ct ge ce gu cu gb cb W3.heap.size h (fun F => ∀ u v, n ≤ u → u < L.length → v < M.length → F u v = dB L M u v)) (fun i _ _ _ => (intOf i + 1).toNat)
  case atStart => exact ⟨L.length, Nat.le_refl _, rfl, ⟨⟨_, unhide HCM, fun u v h1 h2 => by omega⟩, (unhide HX4).1, (unhide HX4).2, unhide HB4⟩⟩
  case round =>
    clear HCM HX4 HB4
    obtain ⟨n, hn, rfl, hlc⟩ := hrel
    have HLC := hide hlc
    by_cases hn0 : n = 0
    · subst hn0
      obtain ⟨a0, _⟩ := box_cell hlc.box 0
      obtain ⟨a1, _⟩ := box_cell hlc.box 1
      obtain ⟨a2, _⟩ := box_cell hlc.box 2
      obtain ⟨a3, _⟩ := box_cell hlc.box 3
      obtain ⟨a4, _⟩ := box_cell hlc.box 4
      obtain ⟨d0, q0⟩ := box_cell hlc.out 0
      obtain ⟨d1, q1⟩ := box_cell hlc.out 1
      obtain ⟨d2, q2⟩ := box_cell hlc.out 2
      obtain ⟨d3, q3⟩ := box_cell hlc.out 3
      obtain ⟨d4, q4⟩ := box_cell hlc.out 4
      simp only [List.getElem?_toArray, List.getElem?_cons_zero, List.getElem?_cons_succ] at a0 a1 a2 a3 a4 d0 d1 d2 d3 d4
      clear hlc
      go_wp2_with fail
      obtain ⟨⟨F, hc, hF⟩, _, hout, hbel⟩ := unhide HLC
      refine bodyPost_ret (results_cell_row rfl _ _ w.heap.size _ _ (0, 0) _ rfl (set5 _ _ _ _ _ hout) Tryz.underlying60 rfl Tryz.infoCmp1) rfl ?_
      refine ⟨((((hbel.setCell (p := ⟨w.heap.size, 0, none⟩) (Nat.le_refl _) _).setCell (p := ⟨w.heap.size, 1, none⟩) (Nat.le_refl _) _).setCell (p := ⟨w.heap.size, 2, none⟩) (Nat.le_refl _) _).setCell (p := ⟨w.heap.size, 3, none⟩) (Nat.le_refl _) _).setCell (p := ⟨w.heap.size, 4, none⟩) (Nat.le_refl _) _, ge, ce, gu, cu, gb, cb, W3.heap.size, h, F, rfl, ?_, fun u v h1 h2 => hF u v (Nat.zero_le _) h1 h2⟩
      exact hc.but (b := w.heap.size) (set5_other _ _ _ _ _ _ _) (by simp only [Go.Deep.nblk_setCell]) (by omega) (by omega) (by omega) (by omega) (by omega)
    · obtain ⟨m, rfl⟩ : ∃ m, n = m + 1 := ⟨n - 1, by omega⟩
      rw [show ((m + 1 : Nat) : Int) - 1 = (m : Int) by omega]
      clear hlc
      go_wp2_with fail
      go_loopw [7, 8] (fun j _ wq => ∃ p : Nat, p ≤ M.length ∧ j = .int .i64 ((p : Int) - 1) ∧ LoopC w wq L M gf cf gt ct ge ce gu cu gb cb W3.heap.size h (fun F => (∀ u v, m + 1 ≤ u → u < L.length → v < M.length → F u v = dB L M u v) ∧ ∀ v, p ≤ v → v < M.length → F m v = dB L M m v)) (fun j _ _ => (intOf j + 1).toNat)
      case atStart =>
        obtain ⟨⟨F, hc, hF⟩, q1, q2, q3⟩ := unhide HLC
        exact ⟨M.length, Nat.le_refl _, rfl, ⟨⟨F, hc, hF, fun v h1 h2 => by omega⟩, q1, q2, q3⟩⟩
      case round =>
        clear HLC
        obtain ⟨p, hp, rfl, hlc⟩ := hrel
        have HLC := hide hlc
        by_cases hp0 : p = 0
        · subst hp0
          clear hlc
          go_wp2_with fail
          go_roundw
          case rel =>
            obtain ⟨⟨F, hc, hF1, hF2⟩, q1, q2, q3⟩ := unhide HLC
            refine ⟨m, by omega, by go_num, ⟨⟨F, hc, fun u v r1 r2 r3 => ?_⟩, q1, q2, q3⟩⟩
            rcases Nat.lt_or_ge m u with q | q
            · exact hF1 u v q r2 r3
            · have : u = m := by omega
              subst this
              exact hF2 v (Nat.zero_le _) r3
          case measure => simp [intOf]
        · obtain ⟨q, rfl⟩ : ∃ q, p = q + 1 := ⟨p - 1, by omega⟩
          rw [show ((q + 1 : Nat) : Int) - 1 = (q : Int) by omega]
          obtain ⟨⟨F, hc, hF1, hF2⟩, hbox, hout, hbel⟩ := hlc
          obtain ⟨a0, _⟩ := box_cell hbox 0
          obtain ⟨a1, _⟩ := box_cell hbox 1
          obtain ⟨a2, _⟩ := box_cell hbox 2
          obtain ⟨a3, _⟩ := box_cell hbox 3
          obtain ⟨a4, _⟩ := box_cell hbox 4
          simp only [List.getElem?_toArray, List.getElem?_cons_zero, List.getElem?_cons_succ] at a0 a1 a2 a3 a4
          have HST := hide (stepsBelow_any L M gf cf gt ct ge ce gu cu gb cb W3.heap.size h F m q wr (by omega) (by omega) hLl hMl hc (fun u v r1 r2 r3 r4 => hF1 u v (by omega) r2 r4))
          unfold cmpV at HST
          have HC := hide hc
          have HF1 := hide hF1
          have HF2 := hide hF2
          have HBX := hide hbox
          have HOT := hide hout
          have HBL := hide hbel
          clear hc hF1 hF2 hbox hout hbel HLC
          go_wp2_with fail
          refine (unhide HST).mono ?_
          rintro e w5 ⟨hB5, g2, cap2, h2, F2, rfl, hT2, hF00⟩
          replace hF00 : F2 0 0 = dB L M m q := hF00 0 0 (Nat.zero_le _) (Nat.zero_le _)
          have hszr := hB5.size
          have c5 := (unhide HC).heap hB5
          have bx5 := (hB5.block _ (Array.getElem?_eq_some_iff.1 (unhide HBX)).1).trans (unhide HBX)
          have ot5 := (hB5.block _ (Array.getElem?_eq_some_iff.1 (unhide HOT)).1).trans (unhide HOT)
          obtain ⟨b4, _⟩ := box_cell bx5 4
          simp only [List.getElem?_toArray, List.getElem?_cons_zero, List.getElem?_cons_succ] at b4
          have o1 := c5.tab.outer m (by omega)
          have o2 := c5.tab.cell (r := m) (c := q) (by omega) (by omega)
          have o3 := c5.tab.frozen (r := m) (c := q) (by omega)
          have t1 := hT2.outer 0 (by omega)
          have t2 := hT2.cell (r := 0) (c := 0) (by omega) (by omega)
          rw [hF00] at t2
          have hrb := (unhide HC).tab.rb m (by omega)
          have hhl : h m < wr.heap.size := ((unhide HC).tab.row m (by omega)).lt
          have hg2 := hT2.base
          have hh2 := (hT2.rb 0 (by omega)).1
          have HNEW : Hid (LoopC w (w5.drew.setCell ⟨h m, q, none⟩ (.int .i64 (dB L M m q))) L M gf cf gt ct ge ce gu cu gb cb W3.heap.size h (fun F => (∀ u v, m + 1 ≤ u → u < L.length → v < M.length → F u v = dB L M u v) ∧ ∀ v, q ≤ v → v < M.length → F m v = dB L M m v)) := by
            refine ⟨⟨_, c5.draw.set (by omega) (by omega) hgel hgul (i := m) (j := q) (by omega) _, fun u v r1 r2 r3 => ?_, fun v r1 r2 => ?_⟩, ?_, ?_, ?_⟩
            · rw [if_neg (by omega)]; exact unhide HF1 u v r1 r2 r3
            · by_cases e : v = q
              · rw [if_pos ⟨rfl, e⟩, e]
              · rw [if_neg (by omega)]; exact unhide HF2 v (by omega) r2
            · exact (Below.heap_setCell _ _ _ _ (by show w.heap.size + 1 ≠ h m; omega)).trans bx5
            · exact (Below.heap_setCell _ _ _ _ (by show w.heap.size ≠ h m; omega)).trans ot5
            · exact (((unhide HBL).trans (hB5.mono (unhide HBL).size)).drew).setCell (p := ⟨h m, q, none⟩) (by show w.heap.size ≤ h m; omega) _
          have HS0 : Hid (w5.drew.cell? ⟨w.heap.size + 1, 4, none⟩ = some (.slice (some ⟨gb, 0, none⟩) L.length cb) ∧ w5.drew.cell? ⟨gb, m, none⟩ = some (.slice (some ⟨h m, 0, none⟩) M.length M.length) ∧ w5.drew.cell? ⟨g2, 0, none⟩ = some (.slice (some ⟨h2 0, 0, none⟩) (subE M q - q - 1 + 1) (subE M q - q - 1 + 1)) ∧ w5.drew.cell? ⟨h2 0, 0, none⟩ = some (.int .i64 (dB L M m q))) := ⟨b4, o1, t1, t2⟩
          have HSK : Hid (∀ x, (w5.drew.setCell ⟨h m, q, none⟩ x).cell? ⟨w.heap.size + 1, 4, none⟩ = some (.slice (some ⟨gb, 0, none⟩) L.length cb) ∧ (w5.drew.setCell ⟨h m, q, none⟩ x).cell? ⟨gb, m, none⟩ = some (.slice (some ⟨h m, 0, none⟩) M.length M.length) ∧ (w5.drew.setCell ⟨h m, q, none⟩ x).cell? ⟨g2, 0, none⟩ = some (.slice (some ⟨h2 0, 0, none⟩) (subE M q - q - 1 + 1) (subE M q - q - 1 + 1)) ∧ (w5.drew.setCell ⟨h m, q, none⟩ x).cell? ⟨h2 0, 0, none⟩ = some (.int .i64 (dB L M m q))) := fun x =>
            ⟨(cell_heap (Below.heap_setCell _ _ _ _ (by show w.heap.size + 1 ≠ h m; omega))).trans b4, (cell_heap (Below.heap_setCell _ _ _ _ (fun e => hrb.2 e.symm))).trans o1, (cell_heap (Below.heap_setCell _ _ _ _ (by show g2 ≠ h m; omega))).trans t1, (cell_heap (Below.heap_setCell _ _ _ _ (by show h2 0 ≠ h m; omega))).trans t2⟩
          have n1 : (0 : Int) ≤ (m : Int) := by omega
          have n2 : (0 : Int) ≤ (q : Int) := by omega
          have n3 : (m : Int) < (L.length : Int) := by omega
          have n4 : (q : Int) < (M.length : Int) := by omega
          have n5 : (0 : Int) < ((subE M q - q - 1 : Nat) : Int) + 1 := by omega
          have n6 : (0 : Int) < ((subE L m - m - 1 : Nat) : Int) + 1 := by omega
          clear hB5 hT2 hF00 c5 bx5 ot5 a0 a1 a2 a3 a4 HST
          generalize subE M q - q - 1 = C2 at *
          generalize subE L m - m - 1 = R2 at *
          go_wp2_with fail
          go_region_held3 (fun wq => wq.cell? ⟨w.heap.size + 1, 4, none⟩ = some (.slice (some ⟨gb, 0, none⟩) L.length cb) ∧ wq.cell? ⟨gb, m, none⟩ = some (.slice (some ⟨h m, 0, none⟩) M.length M.length) ∧ wq.cell? ⟨g2, 0, none⟩ = some (.slice (some ⟨h2 0, 0, none⟩) (C2 + 1) (C2 + 1)) ∧ wq.cell? ⟨h2 0, 0, none⟩ = some (.int .i64 (dB L M m q))) (first | exact unhide HS0 | exact unhide HSK _) (first | (go_at_call 67; refine (least_any _ _ _).mono ?_; rintro e w1 ⟨rfl, hw⟩; have hw := hw.symm; subst hw))
          all_goals go_wp2_with fail
          all_goals go_roundw
          all_goals first
            | exact ⟨q, by omega, by go_num, unhide HNEW⟩
            | simp [intOf]

end Go.Proofs.YtdaneedflpfeaabGreatDoor

namespace Go.Proofs.YtdaneedflpfeaabGreatDoor
set_option maxRecDepth 100000
open Go.RowKit

set_option maxHeartbeats 1600000 in
theorem fewestSteps_any (L M : List Nd) (gf cf gt ct : Nat) (w : World) (hL0 : 0 < L.length) (hM0 : 0 < M.length) (hLl : L.length ≤ 1000) (hMl : M.length ≤ 1000) (hL : NA w gf 0 L) (hM : NA w gt 0 M) :
    Calls Tryz.prog 13 #[.slice (some ⟨gf, 0, none⟩) L.length cf, .slice (some ⟨gt, 0, none⟩) M.length ct] w fun e w' => e = .returned (.int .i64 (dB L M 0 0)) ∧ Below w.heap.size w w' := by
  have HC := hide (compare_any L M gf cf gt ct w hL0 hM0 hLl hMl hL hM)
  clear hL hM
  go_enter Tryz.func13, Tryz.ntmps13
  go_wp2_with fail
  refine (unhide HC).mono ?_
  rintro e w1 ⟨hB, ge, ce, gu, cu, gb, cb, B, h, F, rfl, hc, hF⟩
  unfold cmpV
  have hal : Below w1.heap.size w1 (w1.alloc (.cells #[.slice (some ⟨gf, 0, none⟩) L.length cf, .slice (some ⟨gt, 0, none⟩) M.length ct, .slice (some ⟨ge, 0, none⟩) L.length ce, .slice (some ⟨gu, 0, none⟩) M.length cu, .slice (some ⟨gb, 0, none⟩) L.length cb] 60 (0, 0))) := (Below.refl _ _).alloc (Nat.le_refl _) _
  have ht := hc.tab.all hal
  have o1 := ht.outer 0 hL0
  have o2 := ht.cell (r := 0) (c := 0) hL0 hM0
  rw [hF 0 0 hL0 hM0] at o2
  have HB := hide (hB.trans (hal.mono hB.size))
  clear hB hc hF hal ht HC
  go_wp2_with fail
  go_ret
  exact ⟨rfl, unhide HB⟩

theorem ok_length {s : ByteArray} {nodes : List Nd} (h : outT s = .ok nodes) : 0 < nodes.length ∧ nodes.length ≤ 80 := by
  obtain ⟨l, j, _, hp, rfl, h2, _⟩ := outT_mod h
  obtain ⟨l1, l2, k, rfl, _⟩ := parseT_node hp
  rw [List.length_map]
  exact ⟨by simp [nodeR], h2⟩
/-- What Dist answers. -/
def distT (a b : ByteArray) : Int × Int := match outT a with
  | .err c _ => (0, c)
  | .ok L => match outT b with
    | .err c _ => (0, c)
    | .ok M => (dB L M 0 0, 0)

/-- The error of the first, or else of the second. -/
def bothC (a b : ByteArray) : Int := match outT a with
  | .err c _ => c
  | .ok _ => match outT b with
    | .err c _ => c
    | .ok _ => 0
theorem both_ok {a b : ByteArray} (h : bothC a b = 0) : ∃ L M, outT a = .ok L ∧ outT b = .ok M := by
  unfold bothC at h
  cases ha : outT a with
  | err c p => rw [ha] at h; exact absurd h (outT_ne ha).1
  | ok L => cases hb : outT b with
    | err c p => rw [ha, hb] at h; exact absurd h (outT_ne hb).1
    | ok M => exact ⟨L, M, rfl, rfl⟩
theorem both_dist {a b : ByteArray} (h : bothC a b ≠ 0) : distT a b = (0, bothC a b) := by
  unfold bothC at h ⊢
  unfold distT
  cases ha : outT a with
  | err c p => rfl
  | ok L => cases hb : outT b with
    | err c p => rfl
    | ok M => rw [ha, hb] at h; exact absurd rfl h

set_option maxHeartbeats 1600000 in
theorem readBoth_err (a b : ByteArray) (w : World) (h : bothC a b ≠ 0) :
    Calls Tryz.prog 12 #[.string a, .string b] w fun e w' => e = .returned (.tuple #[.slice none 0 0, .slice none 0 0, .int .i64 (bothC a b)]) ∧ Below w.heap.size w w' := by
  have HRA := hide (read_all a w)
  have HRB := hide (fun w1 => read_all b w1)
  cases ha : outT a with
  | err c p =>
    rw [ha] at HRA
    have hd : bothC a b = c := by rw [bothC, ha]
    rw [hd]
    have hc : (c != 0) = true := bne_iff_ne.2 (outT_ne ha).1
    clear ha hd h
    go_enter Tryz.func12, Tryz.ntmps12
    go_wp2_with fail
    refine (unhide HRA).mono ?_
    rintro e w1 ⟨hB, rfl⟩
    have HB := hide hB
    clear hB
    go_wp2_with fail
    go_ret3
    exact ⟨rfl, unhide HB⟩
  | ok L =>
    rw [ha] at HRA
    cases hb : outT b with
    | ok M => rw [bothC, ha, hb] at h; exact absurd rfl h
    | err c p =>
      have HRB' : Hid (∀ w1, Calls Tryz.prog 10 #[.string b] w1 fun e w' => RPost w1 (.err c p) e w') := fun w1 => by have := unhide HRB w1; rw [hb] at this; exact this
      have hd : bothC a b = c := by rw [bothC, ha, hb]
      rw [hd]
      have hc : (c != 0) = true := bne_iff_ne.2 (outT_ne hb).1
      clear ha hb hd HRB h
      go_enter Tryz.func12, Tryz.ntmps12
      go_wp2_with fail
      refine (unhide HRA).mono ?_
      rintro e w1 ⟨hB, g1, cap1, rfl, hg1, hown⟩
      have HB := hide hB
      clear hB hown
      go_wp2_with fail
      refine (unhide HRB' _).mono ?_
      rintro e w2 ⟨hB2, rfl⟩
      have HB2 := hide ((unhide HB).trans (hB2.mono (unhide HB).size))
      clear hB2
      go_wp2_with fail
      go_ret3
      exact ⟨rfl, unhide HB2⟩

set_option maxHeartbeats 1600000 in
theorem readBoth_ok (a b : ByteArray) (L M : List Nd) (w : World) (ha : outT a = .ok L) (hb : outT b = .ok M) :
    Calls Tryz.prog 12 #[.string a, .string b] w fun e w' => Below w.heap.size w w' ∧ ∃ g1 c1 g2 c2, e = .returned (.tuple #[.slice (some ⟨g1, 0, none⟩) L.length c1, .slice (some ⟨g2, 0, none⟩) M.length c2, .int .i64 0]) ∧ NA w' g1 0 L ∧ NA w' g2 0 M := by
  have HRA := hide (read_all a w)
  have HRB := hide (fun w1 => read_all b w1)
  rw [ha] at HRA
  have HRB' : Hid (∀ w1, Calls Tryz.prog 10 #[.string b] w1 fun e w' => RPost w1 (.ok M) e w') := fun w1 => by have := unhide HRB w1; rw [hb] at this; exact this
  clear ha hb HRB
  go_enter Tryz.func12, Tryz.ntmps12
  go_wp2_with fail
  refine (unhide HRA).mono ?_
  rintro e w1 ⟨hB, g1, cap1, rfl, hg1, hown⟩
  have HB := hide hB
  have HN := hide (NA.of_own hown hg1 rfl)
  clear hB hown
  go_wp2_with fail
  refine (unhide HRB' _).mono ?_
  rintro e w2 ⟨hB2, g2, cap2, rfl, hg2, hown2⟩
  have HB2 := hide ((unhide HB).trans (hB2.mono (unhide HB).size))
  have HN2 := hide ((unhide HN).below hB2 hg1)
  have HM2 := hide (NA.of_own hown2 hg2 rfl)
  clear hB2 hown2 HN
  go_wp2_with fail
  go_ret3
  exact ⟨unhide HB2, g1, cap1, g2, cap2, rfl, unhide HN2, unhide HM2⟩

set_option maxHeartbeats 1600000 in
theorem dist_any (a b : ByteArray) (w : World) :
    Calls Tryz.prog 7 #[.string a, .string b] w fun e w' => e = .returned (.tuple #[.int .i64 (distT a b).1, .int .i64 (distT a b).2]) ∧ Below w.heap.size w w' := by
  by_cases h : bothC a b = 0
  · obtain ⟨L, M, ha, hb⟩ := both_ok h
    have HR := hide (readBoth_ok a b L M w ha hb)
    have hd : distT a b = (dB L M 0 0, 0) := by rw [distT, ha, hb]
    rw [hd]
    have hLl := ok_length ha
    have hMl := ok_length hb
    clear ha hb hd h
    go_enter Tryz.func7, Tryz.ntmps7
    go_wp2_with fail
    refine (unhide HR).mono ?_
    rintro e w2 ⟨hB2, g1, cap1, g2, cap2, rfl, hn2, hm2⟩
    have HB2 := hide hB2
    have HN2 := hide hn2
    have HM2 := hide hm2
    clear hB2 hn2 hm2 HR
    go_wp2_with fail
    refine (fewestSteps_any L M g1 cap1 g2 cap2 w2 hLl.1 hMl.1 (by omega) (by omega) (unhide HN2) (unhide HM2)).mono ?_
    rintro e w3 ⟨rfl, hB3⟩
    have HB3 := hide ((unhide HB2).trans (hB3.mono (unhide HB2).size))
    clear hB3
    go_wp2_with fail
    go_ret2
    exact ⟨rfl, unhide HB3⟩
  · have HR := hide (readBoth_err a b w h)
    rw [both_dist h]
    have hc : (bothC a b != 0) = true := bne_iff_ne.2 h
    clear h
    generalize bothC a b = c at *
    go_enter Tryz.func7, Tryz.ntmps7
    go_wp2_with fail
    refine (unhide HR).mono ?_
    rintro e w1 ⟨rfl, hB⟩
    have HB := hide hB
    clear hB
    go_wp2_with fail
    go_ret2
    exact ⟨rfl, unhide HB⟩

end Go.Proofs.YtdaneedflpfeaabGreatDoor
