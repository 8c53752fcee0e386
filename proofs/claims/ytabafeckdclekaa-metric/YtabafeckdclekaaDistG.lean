import Derived.Test.YtabafeckdclekaaDistF
import Derived.Deep.RegionHeld3
namespace Go.Proofs.Ytabafeckdclekaa
set_option maxRecDepth 100000
open Go.RowKit

/-- The comparison, boxed. -/
def cmpO (gf cf lf gt ct lt ge ce gu cu gb cb : Nat) : Obj := .cells #[.slice (some ⟨gf, 0, none⟩) lf cf, .slice (some ⟨gt, 0, none⟩) lt ct, .slice (some ⟨ge, 0, none⟩) lf ce, .slice (some ⟨gu, 0, none⟩) lt cu, .slice (some ⟨gb, 0, none⟩) lf cb] 73 (0, 0)
/-- What a comparison is made of, in memory. -/
structure Cmp (w : World) (L M : List Nd) (gf gt ge gu gb B : Nat) (h : Nat → Nat) (F : Nat → Nat → Int) : Prop where
  from_ : NA w gf 0 L
  to_ : NA w gt 0 M
  fe : IA w ge L.length (subE L)
  te : IA w gu M.length (subE M)
  tab : Tab w B gb L.length M.length h F
theorem Cmp.heap {w w' : World} {L M : List Nd} {gf gt ge gu gb B : Nat} {h : Nat → Nat} {F : Nat → Nat → Int} (c : Cmp w L M gf gt ge gu gb B h F) (hw : Below w.heap.size w w') : Cmp w' L M gf gt ge gu gb B h F :=
  ⟨c.from_.below hw c.from_.lt, c.to_.below hw c.to_.lt, c.fe.below hw c.fe.lt, c.te.below hw c.te.lt, c.tab.all hw⟩
theorem cmp_cells {wq : World} {b : Nat} {gf cf lf gt ct lt ge ce gu cu gb cb : Nat} (hk : wq.heap[b]? = some (cmpO gf cf lf gt ct lt ge ce gu cu gb cb)) :
    wq.cell? ⟨b, 0, none⟩ = some (.slice (some ⟨gf, 0, none⟩) lf cf) ∧ wq.cell? ⟨b, 1, none⟩ = some (.slice (some ⟨gt, 0, none⟩) lt ct) ∧ wq.cell? ⟨b, 2, none⟩ = some (.slice (some ⟨ge, 0, none⟩) lf ce) ∧ wq.cell? ⟨b, 3, none⟩ = some (.slice (some ⟨gu, 0, none⟩) lt cu) ∧ wq.cell? ⟨b, 4, none⟩ = some (.slice (some ⟨gb, 0, none⟩) lf cb) := by
  unfold cmpO at hk
  refine ⟨?_, ?_, ?_, ?_, ?_⟩ <;> (rw [cell_of_row wq b _ _ _ (0, 0) hk]; rfl)
/-- What stepsBelow answers. -/
def StepsR (w : World) (L M : List Nd) (k l : Nat) (e : Ending) (w' : World) : Prop := Below w.heap.size w w' ∧ ∃ g cap h F, e = .returned (.slice (some ⟨g, 0, none⟩) (subE L k - k - 1 + 1) cap) ∧ Tab w' w.heap.size g (subE L k - k - 1 + 1) (subE M l - l - 1 + 1) h F ∧ F 0 0 = dB L M k l

set_option maxHeartbeats 3200000 in
set_option maxRecDepth 100000 in
theorem stepsBelow_any (L M : List Nd) (gf cf gt ct ge ce gu cu gb cb B : Nat) (hb : Nat → Nat) (Fb : Nat → Nat → Int) (k l : Nat) (w : World) (hk : k < L.length) (hl : l < M.length) (hLl : L.length ≤ 1000) (hMl : M.length ≤ 1000)
    (hc : Cmp w L M gf gt ge gu gb B hb Fb) (hF : ∀ u v, k < u → u < L.length → l < v → v < M.length → Fb u v = dB L M u v) :
    Calls Try.prog 50 #[cmpV gf cf L.length gt ct M.length ge ce gu cu gb cb, .int .i64 (k : Int), .int .i64 (l : Int)] w fun e w' => StepsR w L M k l e w' := by
  have HKEY : Hid (∀ wq : World, Below (w.heap.size + 1) (w.alloc (cmpO gf cf L.length gt ct M.length ge ce gu cu gb cb)) wq → wq.heap[w.heap.size]? = some (cmpO gf cf L.length gt ct M.length ge ce gu cu gb cb) ∧ Cmp wq L M gf gt ge gu gb B hb Fb ∧ Below w.heap.size w wq) := fun wq hq => by
    have hk := (hq.block w.heap.size (by omega)).trans (heap_alloc_new _ _)
    have hB : Below w.heap.size w wq := ((Below.refl w.heap.size w).alloc (Nat.le_refl _) _).trans (hq.mono (by omega))
    exact ⟨hk, hc.heap hB, hB⟩
  have h1 := subE_le hk
  have h2 := subE_le hl
  have HF := hide hF
  have HV0 : Hid (∀ j, j ≤ subE M l - l - 1 → vN L M k l (subE L k - k - 1) j = ((subE M l - l - 1 : Nat) : Int) - j) := fun j hj => by rw [vN_rows hk hl]; omega
  have HV1 : Hid (∀ i, i ≤ subE L k - k - 1 → vN L M k l i (subE M l - l - 1) = ((subE L k - k - 1 : Nat) : Int) - i) := fun j hj => by rw [vN_cols hk hl]; omega
  have HVS := hide (fun i j hi hj h => vN_step (L := L) (M := M) (k := k) (l := l) (i := i) (j := j) hk hl hi hj Fb h)
  have HVB : Hid (∀ i j, 0 ≤ vN L M k l i j ∧ vN L M k l i j ≤ 2000) := fun i j => by have := vN_le (L := L) (M := M) hk hl i j; omega
  have HV00 : Hid (vN L M k l 0 0 = dB L M k l) := rfl
  have e1 : ((subE L k : Int) - k - 1) = ((subE L k - k - 1 : Nat) : Int) := by omega
  have e2 : ((subE M l : Int) - l - 1) = ((subE M l - l - 1 : Nat) : Int) := by omega
  obtain ⟨hbox, hcm, _⟩ := unhide HKEY _ (Below.refl _ _)
  have cells := cmp_cells hbox
  have i1 := hcm.fe.at_ k hk
  have i2 := hcm.te.at_ l hl
  obtain ⟨c0, c1, c2, c3, c4⟩ := cells
  clear hF hcm hc hbox
  unfold StepsR
  unfold cmpV
  unfold cmpO at *
  have HW0 : Hid ((w.alloc (Obj.cells #[.slice (some ⟨gf, 0, none⟩) L.length cf, .slice (some ⟨gt, 0, none⟩) M.length ct, .slice (some ⟨ge, 0, none⟩) L.length ce, .slice (some ⟨gu, 0, none⟩) M.length cu, .slice (some ⟨gb, 0, none⟩) L.length cb] 73 (0, 0))).heap.size = w.heap.size + 1) := by show _ = _; simp
  have HZ := fun R C h1 h2 h3 => zeros_any R C (w.alloc (Obj.cells #[.slice (some ⟨gf, 0, none⟩) L.length cf, .slice (some ⟨gt, 0, none⟩) M.length ct, .slice (some ⟨ge, 0, none⟩) L.length ce, .slice (some ⟨gu, 0, none⟩) M.length cu, .slice (some ⟨gb, 0, none⟩) L.length cb] 73 (0, 0))) h1 h2 h3
  replace HZ := hide (HZ (subE L k - k - 1 + 1) (subE M l - l - 1 + 1) (by omega) (by omega) (by omega))
  rw [show ((subE L k - k - 1 + 1 : Nat) : Int) = ((subE L k - k - 1 : Nat) : Int) + 1 by omega, show ((subE M l - l - 1 + 1 : Nat) : Int) = ((subE M l - l - 1 : Nat) : Int) + 1 by omega] at HZ
  go_enter Try.func50, Try.ntmps50
  go_wp2_with fail
  refine (unhide HZ).mono ?_
  rintro e w1 ⟨hB1, g, cap, h, rfl, hT⟩
  clear c0 c1 c2 c3 c4 i1 i2 HZ
  generalize hW0 : w.alloc (Obj.cells #[.slice (some ⟨gf, 0, none⟩) L.length cf, .slice (some ⟨gt, 0, none⟩) M.length ct, .slice (some ⟨ge, 0, none⟩) L.length ce, .slice (some ⟨gu, 0, none⟩) M.length cu, .slice (some ⟨gb, 0, none⟩) L.length cb] 73 (0, 0)) = W0 at *
  rw [unhide HW0] at hB1 hT
  generalize hR : subE L k - k - 1 = R at *
  generalize hC : subE M l - l - 1 = C at *
  have HT := hide hT
  have HB1 := hide hB1
  clear hT hB1 hW0
  go_wp2_with fail
  go_loopw [10, 11, 12, 13, 14, 15] (fun i _ _ _ _ _ wr => ∃ n : Nat, n ≤ R + 1 ∧ i = .int .i64 ((n : Int) - 1) ∧ (∃ F, Tab wr (w.heap.size + 1) g (R + 1) (C + 1) h F ∧ ∀ i j, n ≤ i → i ≤ R → j ≤ C → F i j = vN L M k l i j) ∧ Below (w.heap.size + 1) W0 wr) (fun i _ _ _ _ _ _ => (intOf i + 1).toNat)
  case atStart => exact ⟨R + 1, by omega, by go_num, ⟨_, unhide HT, fun i j h1 h2 _ => by omega⟩, unhide HB1⟩
  case round =>
    obtain ⟨n, hn, rfl, ⟨F, hT, hFV⟩, hB⟩ := hrel
    have HT := hide hT
    have HFV := hide hFV
    have HB := hide hB
    clear hT hFV hB
    by_cases hn0 : n = 0
    · subst hn0
      have HF0 : Hid (F 0 0 = dB L M k l) := by show F 0 0 = _; rw [unhide HFV 0 0 (Nat.le_refl _) (Nat.zero_le _) (Nat.zero_le _)]; exact unhide HV00
      go_wp2_with fail
      go_ret
      obtain ⟨_, _, hB0⟩ := unhide HKEY _ (unhide HB)
      refine ⟨hB0, g, cap, h, F, by rw [hR]; rfl, ?_, unhide HF0⟩
      rw [hR, hC]
      exact (unhide HT).mono (by omega)
    · obtain ⟨m, rfl⟩ : ∃ m, n = m + 1 := ⟨n - 1, by omega⟩
      rw [show ((m + 1 : Nat) : Int) - 1 = (m : Int) by omega]
      go_wp2_with fail
      go_loopw [11, 12, 13, 14, 15] (fun j _ _ _ _ wq => ∃ p : Nat, p ≤ C + 1 ∧ j = .int .i64 ((p : Int) - 1) ∧ (∃ F, Tab wq (w.heap.size + 1) g (R + 1) (C + 1) h F ∧ (∀ i j, m + 1 ≤ i → i ≤ R → j ≤ C → F i j = vN L M k l i j) ∧ ∀ j, p ≤ j → j ≤ C → F m j = vN L M k l m j) ∧ Below (w.heap.size + 1) W0 wq) (fun j _ _ _ _ _ => (intOf j + 1).toNat)
      case atStart => exact ⟨C + 1, by omega, by go_num, ⟨F, unhide HT, unhide HFV, fun j h1 h2 => by omega⟩, unhide HB⟩
      case round =>
        obtain ⟨p, hp, rfl, ⟨F2, hT2, hFV2, hFM⟩, hB2⟩ := hrel
        clear HT HFV HB
        have HT := hide hT2
        have HFV := hide hFV2
        have HFM := hide hFM
        have HB := hide hB2
        by_cases hp0 : p = 0
        · subst hp0
          clear hT2 hFV2 hFM hB2
          go_wp2_with fail
          go_roundw
          case rel =>
            refine ⟨m, by omega, by go_num, ⟨F2, unhide HT, fun i j q1 q2 q3 => ?_⟩, unhide HB⟩
            rcases Nat.lt_or_ge m i with q | q
            · exact unhide HFV i j q q2 q3
            · have : i = m := by omega
              subst this
              exact unhide HFM j (Nat.zero_le _) q3
          case measure => simp [intOf]
        · obtain ⟨q, rfl⟩ : ∃ q, p = q + 1 := ⟨p - 1, by omega⟩
          rw [show ((q + 1 : Nat) : Int) - 1 = (q : Int) by omega]
          have o1 := hT2.outer m (by omega)
          have o2 := hT2.cell (r := m) (c := q) (by omega) (by omega)
          have o3 := hT2.frozen (r := m) (c := q) (by omega)
          have HSET : Hid (∀ x : Int, x = vN L M k l m q → (∃ F, Tab (wr.setCell ⟨h m, q, none⟩ (.int .i64 x)) (w.heap.size + 1) g (R + 1) (C + 1) h F ∧ (∀ i j, m + 1 ≤ i → i ≤ R → j ≤ C → F i j = vN L M k l i j) ∧ ∀ j, q ≤ j → j ≤ C → F m j = vN L M k l m j) ∧ Below (w.heap.size + 1) W0 (wr.setCell ⟨h m, q, none⟩ (.int .i64 x))) := fun x hx => by
            refine ⟨⟨_, hT2.set (by omega) x, fun i j a1 a2 a3 => ?_, fun j a1 a2 => ?_⟩, hB2.setCell (p := ⟨h m, q, none⟩) (hT2.rb m (by omega)).1 _⟩
            · rw [if_neg (by omega)]; exact hFV2 i j a1 a2 a3
            · by_cases e : j = q
              · rw [if_pos ⟨rfl, e⟩, e]; exact hx
              · rw [if_neg (by omega)]; exact hFM j (by omega) a2
          by_cases hmR : m = R
          · have hmR' : ((m : Int) == (R : Int)) = true := by simp [hmR]
            have HX : Hid ((C : Int) - q = vN L M k l m q) := by show _ = _; rw [hmR, unhide HV0 q (by omega)]
            have HS1 := hide (unhide HSET _ (unhide HX))
            clear hT2 hFV2 hFM hB2 HSET hmR
            go_wp2_with fail
            go_roundw
            case rel => exact ⟨q, by omega, by go_num, (unhide HS1).1, (unhide HS1).2⟩
            case measure => simp [intOf]
          · have hmR' : ((m : Int) == (R : Int)) = false := by simp; omega
            by_cases hqC : q = C
            · have hqC' : ((q : Int) == (C : Int)) = true := by simp [hqC]
              have HX : Hid ((R : Int) - m = vN L M k l m q) := by show _ = _; rw [hqC, unhide HV1 m (by omega)]
              have HS1 := hide (unhide HSET _ (unhide HX))
              clear hT2 hFV2 hFM hB2 HSET hqC
              go_wp2_with fail
              go_roundw
              case rel => exact ⟨q, by omega, by go_num, (unhide HS1).1, (unhide HS1).2⟩
              case measure => simp [intOf]
            · have hqC' : ((q : Int) == (C : Int)) = false := by simp; omega
              obtain ⟨hstep, hpf, hpt, hpf2, hpt2⟩ := unhide HVS m q (by omega) (by omega) (unhide HF _ _ (by omega) (by omega) (by omega) (by omega))
              obtain ⟨hbox, hcm, _⟩ := unhide HKEY _ hB2
              obtain ⟨c0, c1, c2, c3, c4⟩ := cmp_cells hbox
              have f1 := hcm.fe.at_ (k + 1 + m) (by omega)
              have f2 := hcm.te.at_ (l + 1 + q) (by omega)
              have HPR : Hid (∀ wx, Below (w.heap.size + 1) W0 wx → Calls Try.prog 71 #[.agg #[.slice (some ⟨gf, 0, none⟩) L.length cf, .slice (some ⟨gt, 0, none⟩) M.length ct, .slice (some ⟨ge, 0, none⟩) L.length ce, .slice (some ⟨gu, 0, none⟩) M.length cu, .slice (some ⟨gb, 0, none⟩) L.length cb], .int .i64 ((k : Int) + 1 + m), .int .i64 ((l : Int) + 1 + q)] wx fun e w' => e = .returned (.int .i64 (prd Fb L M (k + 1 + m) (l + 1 + q))) ∧ Below wx.heap.size wx w') := fun wx hx => by
                obtain ⟨_, hcm, _⟩ := unhide HKEY _ hx
                have := paired_any L M gf cf gt ct ge ce gu cu gb cb B hb Fb (k + 1 + m) (l + 1 + q) wx (by omega) (by omega) hcm.from_ hcm.to_ hcm.tab (by rw [unhide HF _ _ (by omega) (by omega) (by omega) (by omega)]; have := dN_le L M (k + 1 + m + 1) (subE L (k + 1 + m)) (l + 1 + q + 1) (subE M (l + 1 + q)) (subE_le (by omega)).2 (subE_le (by omega)).2; unfold dB; omega)
                rw [show ((k + 1 + m : Nat) : Int) = (k : Int) + 1 + m by omega, show ((l + 1 + q : Nat) : Int) = (l : Int) + 1 + q by omega] at this
                exact this
              have r1 := hT2.outer (m + 1) (by omega)
              have r2 := hT2.cell (r := m + 1) (c := q) (by omega) (by omega)
              have r3 := hT2.cell (r := m) (c := q + 1) (by omega) (by omega)
              rw [hFV2 (m + 1) q (by omega) (by omega) (by omega)] at r2
              rw [hFM (q + 1) (by omega) (by omega)] at r3
              have v1 := unhide HVB (m + 1) q
              have v2 := unhide HVB m (q + 1)
              have v3 := unhide HVB (subE L (k + 1 + m) - k - 1) (subE M (l + 1 + q) - l - 1)
              have HT2 : Hid (∀ wx, Below wr.heap.size wr wx → wx.cell? ⟨w.heap.size, 2, none⟩ = some (.slice (some ⟨ge, 0, none⟩) L.length ce) ∧ wx.cell? ⟨w.heap.size, 3, none⟩ = some (.slice (some ⟨gu, 0, none⟩) M.length cu) ∧ wx.cell? ⟨ge, k + 1 + m, none⟩ = some (.int .i64 (subE L (k + 1 + m) : Int)) ∧ wx.cell? ⟨gu, l + 1 + q, none⟩ = some (.int .i64 (subE M (l + 1 + q) : Int)) ∧
                  wx.cell? ⟨g, m, none⟩ = some (.slice (some ⟨h m, 0, none⟩) (C + 1) (C + 1)) ∧ wx.cell? ⟨g, subE L (k + 1 + m) - k - 1, none⟩ = some (.slice (some ⟨h (subE L (k + 1 + m) - k - 1), 0, none⟩) (C + 1) (C + 1)) ∧ wx.cell? ⟨h (subE L (k + 1 + m) - k - 1), subE M (l + 1 + q) - l - 1, none⟩ = some (.int .i64 (vN L M k l (subE L (k + 1 + m) - k - 1) (subE M (l + 1 + q) - l - 1))) ∧ wx.cell? ⟨h m, q, none⟩ = some (.int .i64 (F2 m q)) ∧ wx.frozen? ⟨h m, q, none⟩ = false) := fun wx hx => by
                have hBx : Below (w.heap.size + 1) W0 wx := hB2.trans (hx.mono (by have := hB2.size; rw [unhide HW0] at this; exact this))
                obtain ⟨hbox, hcm, _⟩ := unhide HKEY _ hBx
                obtain ⟨_, _, c2, c3, _⟩ := cmp_cells hbox
                have hTx := hT2.all hx
                refine ⟨c2, c3, hcm.fe.at_ (k + 1 + m) (by omega), hcm.te.at_ (l + 1 + q) (by omega), hTx.outer m (by omega), hTx.outer _ (by omega), ?_, hTx.cell (by omega) (by omega), hTx.frozen (by omega)⟩
                rw [hTx.cell (by omega) (by omega), hFV2 _ _ (by omega) hpf (by omega)]
              have HSET2 : Hid (∀ wx, Below wr.heap.size wr wx → ∀ x : Int, x = vN L M k l m q → (∃ F, Tab (wx.drew.setCell ⟨h m, q, none⟩ (.int .i64 x)) (w.heap.size + 1) g (R + 1) (C + 1) h F ∧ (∀ i j, m + 1 ≤ i → i ≤ R → j ≤ C → F i j = vN L M k l i j) ∧ ∀ j, q ≤ j → j ≤ C → F m j = vN L M k l m j) ∧ Below (w.heap.size + 1) W0 (wx.drew.setCell ⟨h m, q, none⟩ (.int .i64 x))) := fun wx hwx x hx => by
                have hBx : Below (w.heap.size + 1) W0 wx := hB2.trans (hwx.mono (by have := hB2.size; rw [unhide HW0] at this; exact this))
                refine ⟨⟨_, ((hT2.all hwx).draw).set (by omega) x, fun i j a1 a2 a3 => ?_, fun j a1 a2 => ?_⟩, hBx.drew.setCell (p := ⟨h m, q, none⟩) (hT2.rb m (by omega)).1 _⟩
                · rw [if_neg (by omega)]; exact hFV2 i j a1 a2 a3
                · by_cases e : j = q
                  · rw [if_pos ⟨rfl, e⟩, e]; exact hx
                  · rw [if_neg (by omega)]; exact hFM j (by omega) a2
              have hne1 : h m ≠ g := (hT2.rb m (by omega)).2
              have hne2 : h m < h (subE L (k + 1 + m) - k - 1) := hT2.inj m _ hpf2 (by omega)
              have hprd : 0 ≤ prd Fb L M (k + 1 + m) (l + 1 + q) ∧ prd Fb L M (k + 1 + m) (l + 1 + q) ≤ 3000 := by
                have b0 := unhide HF (k + 1 + m) (l + 1 + q) (by omega) (by omega) (by omega) (by omega)
                have b1 := dN_le L M (k + 1 + m + 1) (subE L (k + 1 + m)) (l + 1 + q + 1) (subE M (l + 1 + q)) (subE_le (by omega)).2 (subE_le (by omega)).2
                unfold prd
                split
                · next x y _ _ => have := Dist.rel_le (lab x) (lab y); unfold dB at b0; omega
                · omega
              have s1 := subE_le (l := L) (k := k + 1 + m) (by omega)
              have s2 := subE_le (l := M) (k := l + 1 + q) (by omega)
              have e3 : ((subE L (k + 1 + m) : Int) - k - 1) = ((subE L (k + 1 + m) - k - 1 : Nat) : Int) := by omega
              have e4 : ((subE M (l + 1 + q) : Int) - l - 1) = ((subE M (l + 1 + q) - l - 1 : Nat) : Int) := by omega
              have HW : Hid (∀ x : Int, x = min (min (vN L M k l (m + 1) q) (vN L M k l m (q + 1)) + 1) (prd Fb L M (k + 1 + m) (l + 1 + q) + vN L M k l (subE L (k + 1 + m) - k - 1) (subE M (l + 1 + q) - l - 1)) → x = vN L M k l m q) := fun x hx => hx.trans hstep.symm
              clear hT2 hFV2 hFM hB2 hstep hcm hbox hmR hqC
              generalize subE L (k + 1 + m) - k - 1 = pf at *
              generalize subE M (l + 1 + q) - l - 1 = pt at *
              generalize prd Fb L M (k + 1 + m) (l + 1 + q) = pr at *
              generalize vN L M k l (m + 1) q = V1 at *
              generalize vN L M k l m (q + 1) = V2 at *
              generalize vN L M k l pf pt = V3 at *
              go_wp2_with fail
              go_quiet (first | (go_at_call 70; exact Calls.quiet_of_same (least_any _ _ _)))
              obtain ⟨mn, hmn⟩ : ∃ mn, mn = min V1 V2 := ⟨_, rfl⟩
              have hmn2 : 0 ≤ mn ∧ mn ≤ 2000 := by omega
              have HW2 : Hid (∀ x : Int, x = min (mn + 1) (pr + V3) → x = vN L M k l m q) := fun x hx => unhide HW x (by rw [← hmn]; exact hx)
              rw [← hmn] at *
              clear hmn r1 r2 r3 o1 o2 o3
              go_wp2_with fail
              refine (unhide HPR _ ((unhide HB).trans (below_drewN' _ _ _))).mono ?_
              rintro e w5 ⟨rfl, hB5⟩
              have HB5 : Hid (Below wr.heap.size wr w5) := (below_drewN' _ _ _).trans (hB5.mono (by simp))
              obtain ⟨c2, c3, f1, f2, o1, t1, t2, o2, o3⟩ := unhide HT2 _ (unhide HB5)
              have HTAB : Hid (∀ x : Int, x = vN L M k l m q → (∃ F, Tab (w5.drew.setCell ⟨h m, q, none⟩ (.int .i64 x)) (w.heap.size + 1) g (R + 1) (C + 1) h F ∧ (∀ i j, m + 1 ≤ i → i ≤ R → j ≤ C → F i j = vN L M k l i j) ∧ ∀ j, q ≤ j → j ≤ C → F m j = vN L M k l m j) ∧ Below (w.heap.size + 1) W0 (w5.drew.setCell ⟨h m, q, none⟩ (.int .i64 x))) := fun x hx => unhide HSET2 w5 (unhide HB5) x hx
              have HS0 : Hid (w5.drew.cell? ⟨g, m, none⟩ = some (.slice (some ⟨h m, 0, none⟩) (C + 1) (C + 1)) ∧ w5.drew.cell? ⟨g, pf, none⟩ = some (.slice (some ⟨h pf, 0, none⟩) (C + 1) (C + 1)) ∧ w5.drew.cell? ⟨h pf, pt, none⟩ = some (.int .i64 V3)) := ⟨o1, t1, t2⟩
              have HSK : Hid (∀ x, (w5.drew.setCell ⟨h m, q, none⟩ x).cell? ⟨g, m, none⟩ = some (.slice (some ⟨h m, 0, none⟩) (C + 1) (C + 1)) ∧ (w5.drew.setCell ⟨h m, q, none⟩ x).cell? ⟨g, pf, none⟩ = some (.slice (some ⟨h pf, 0, none⟩) (C + 1) (C + 1)) ∧ (w5.drew.setCell ⟨h m, q, none⟩ x).cell? ⟨h pf, pt, none⟩ = some (.int .i64 V3)) := fun x =>
                ⟨(cell_heap (Below.heap_setCell _ _ _ _ (fun e => hne1 e.symm))).trans o1, (cell_heap (Below.heap_setCell _ _ _ _ (fun e => hne1 e.symm))).trans t1, (cell_heap (Below.heap_setCell _ _ _ _ (by show h pf ≠ h m; omega))).trans t2⟩
              clear hB5 c0 c1 c4
              go_wp2_with fail
              have n0 : (0 : Int) ≤ (m : Int) ∧ (0 : Int) ≤ (q : Int) ∧ (0 : Int) ≤ (pf : Int) ∧ (0 : Int) ≤ (pt : Int) := by omega
              obtain ⟨n1, n2, n3, n4⟩ := n0
              have n5 : (m : Int) < (R : Int) + 1 := by omega
              have n6 : (q : Int) < (C : Int) + 1 := by omega
              have n7 : (pf : Int) < (R : Int) + 1 := by omega
              have n8 : (pt : Int) < (C : Int) + 1 := by omega
              go_region_held3 (fun wq => wq.cell? ⟨g, m, none⟩ = some (.slice (some ⟨h m, 0, none⟩) (C + 1) (C + 1)) ∧ wq.cell? ⟨g, pf, none⟩ = some (.slice (some ⟨h pf, 0, none⟩) (C + 1) (C + 1)) ∧ wq.cell? ⟨h pf, pt, none⟩ = some (.int .i64 V3)) (first | exact unhide HS0 | exact unhide HSK _) (first | (go_at_call 70; refine (least_any _ _ _).mono ?_; rintro e w1 ⟨rfl, hw⟩; have hw := hw.symm; subst hw))
              all_goals go_wp2_with fail
              all_goals go_roundw
              all_goals first
                | exact ⟨q, by omega, by go_num, (unhide HTAB _ (unhide HW2 _ rfl)).1, (unhide HTAB _ (unhide HW2 _ rfl)).2⟩
                | simp [intOf]

end Go.Proofs.Ytabafeckdclekaa
