import Derived.Test.YtdaneedflpfeaaaDoorDistL
import Derived.Deep.CutRange
namespace Go.Proofs.YtdaneedflpfeaaaDoor
set_option maxRecDepth 100000
open Go.RowKit

/-- What forests reads. -/
structure For (w : World) (X Y : List (Rw × Nat)) (gx gf gy gg gt B : Nat) (h : Nat → Nat) (T : Nat → Nat → Int) : Prop where
  x : RA w gx 0 (X.map Prod.fst)
  f : IL w gf (X.map Prod.snd)
  y : RA w gy 0 (Y.map Prod.fst)
  g : IL w gg (Y.map Prod.snd)
  t : Tab w B gt X.length Y.length h T
theorem For.below {w w' : World} {X Y : List (Rw × Nat)} {gx gf gy gg gt B : Nat} {h : Nat → Nat} {T : Nat → Nat → Int} (c : For w X Y gx gf gy gg gt B h T) (hb : Below w.heap.size w w') : For w' X Y gx gf gy gg gt B h T :=
  ⟨c.x.below hb c.x.lt, c.f.heap (hb.block _ c.f.lt), c.y.below hb c.y.lt, c.g.heap (hb.block _ c.g.lt), c.t.all hb⟩
theorem idx_lt {p p' q q' m : Nat} (hq : q' < m) (h : p' < p) : p' * m + q' < p * m + q := by
  have := Nat.mul_le_mul_right m (show p' + 1 ≤ p from h)
  rw [Nat.add_mul, Nat.one_mul] at this
  omega
/-- What the table holds so far. -/
def Filled (X Y : List (Rw × Nat)) (a b m p q : Nat) (D : Nat → Int) : Prop := (∀ p' q', p' < p → q' < m → D (p' * m + q') = vP X Y a b p' q') ∧ ∀ q', q' < q → D (p * m + q') = vP X Y a b p q'
theorem Filled.set {X Y : List (Rw × Nat)} {a b m p q : Nat} {D : Nat → Int} (h : Filled X Y a b m p q D) {v : Int} (hv : v = vP X Y a b p q) : Filled X Y a b m p (q + 1) (fun c => if c = p * m + q then v else D c) := by
  constructor
  · intro p' q' h1 h2
    have := idx_lt (q := q) h2 h1
    show (if p' * m + q' = p * m + q then v else D (p' * m + q')) = _
    rw [if_neg (by omega)]
    exact h.1 p' q' h1 h2
  · intro q' h1
    show (if p * m + q' = p * m + q then v else D (p * m + q')) = _
    by_cases e : q' = q
    · rw [e, if_pos rfl]; exact hv
    · rw [if_neg (by omega)]; exact h.2 q' (by omega)
theorem Filled.next {X Y : List (Rw × Nat)} {a b m p : Nat} {D : Nat → Int} (h : Filled X Y a b m p m D) : Filled X Y a b m (p + 1) 0 D := by
  constructor
  · intro p' q' h1 h2
    rcases Nat.lt_or_ge p' p with q | q
    · exact h.1 p' q' q h2
    · have : p' = p := by omega
      subst this
      exact h.2 q' h2
  · intro q' h1; omega
/-- The table, in memory. -/
def Dt (w wr : World) (NM : Nat) (D : Nat → Int) : Prop := wr.rowIs w.heap.size 3 NM (fun c => .int .i64 (D c)) ∧ Below w.heap.size w wr
theorem Dt.set {w wr : World} {NM : Nat} {D : Nat → Int} (h : Dt w wr NM D) (c : Nat) (v : Int) : Dt w (wr.setCell ⟨w.heap.size, c, none⟩ (.int .i64 v)) NM (fun x => if x = c then v else D x) :=
  ⟨(h.1.set c (.int .i64 v)).congr fun i _ => by by_cases e : i = c <;> simp [e], h.2.setCell (p := ⟨w.heap.size, c, none⟩) (Nat.le_refl _) _⟩
theorem Dt.drew {w wr : World} {NM : Nat} {D : Nat → Int} (h : Dt w wr NM D) (n : Nat) : Dt w (wr.drewN n) NM D :=
  ⟨h.1.of_block (by simp), h.2.trans (below_drewN' _ _ _)⟩

set_option maxHeartbeats 6400000 in
set_option maxRecDepth 100000 in
theorem forests_any (X Y : List (Rw × Nat)) (gx cx gf cf gy cy gg cg gt ct B : Nat) (h : Nat → Nat) (T : Nat → Nat → Int) (i j : Nat) (w : World) (hX : Dist.Nest X) (hY : Dist.Nest Y) (hi : i < X.length) (hj : j < Y.length) (hXl : X.length ≤ 1000) (hYl : Y.length ≤ 1000)
    (hc : For w X Y gx gf gy gg gt B h T) (hT : ∀ u v, u < X.length → v < Y.length → (u < i ∨ (u = i ∧ v < j)) → T u v = dQ X Y u v) :
    Calls Tryd.prog 22 #[.slice (some ⟨gx, 0, none⟩) X.length cx, .slice (some ⟨gf, 0, none⟩) X.length cf, .slice (some ⟨gy, 0, none⟩) Y.length cy, .slice (some ⟨gg, 0, none⟩) Y.length cg, .slice (some ⟨gt, 0, none⟩) X.length ct, .int .i64 (i : Int), .int .i64 (j : Int)] w fun e w' => e = .returned (.int .i64 (dQ X Y i j)) ∧ Below w.heap.size w w' := by
  obtain ⟨⟨xi, a⟩, hxi⟩ : ∃ x, X[i]? = some x := ⟨_, List.getElem?_eq_getElem hi⟩
  obtain ⟨⟨yj, b⟩, hyj⟩ : ∃ y, Y[j]? = some y := ⟨_, List.getElem?_eq_getElem hj⟩
  have ha := hX.le i xi a hxi
  have hb := hY.le j yj b hyj
  have HRES : Hid (dQ X Y i j = vP X Y a b (i + 1 - a) (j + 1 - b)) := by
    show dQ X Y i j = _
    unfold dQ vP
    rw [hxi, hyj, show a + (i + 1 - a) = i + 1 by omega, show b + (j + 1 - b) = j + 1 by omega]
  have k1 := hc.f.at_ i a (by rw [List.getElem?_map, hxi]; rfl)
  have k2 := hc.g.at_ j b (by rw [List.getElem?_map, hyj]; rfl)
  obtain ⟨n, hn⟩ : ∃ n, n = i - a + 2 := ⟨_, rfl⟩
  obtain ⟨m, hm⟩ : ∃ m, m = j - b + 2 := ⟨_, rfl⟩
  obtain ⟨NM, hNM⟩ : ∃ NM, NM = n * m := ⟨_, rfl⟩
  have hNMb : NM ≤ 4000000 := by
    have := Nat.mul_le_mul (show n ≤ 2000 by omega) (show m ≤ 2000 by omega)
    omega
  have en : (i : Int) - a + 2 = (n : Int) := by omega
  have em : (j : Int) - b + 2 = (m : Int) := by omega
  have eNM : (n : Int) * (m : Int) = (NM : Int) := by rw [hNM]; exact (Int.natCast_mul _ _).symm
  have hmk := run_make_row' (P := Tryd.prog) 57 3 (.int .i64 0) 8 Tryd.underlying57 Tryd.infoInt rfl .i64 .i64 NM (by omega) (by omega)
  have HST : Hid (Dt w (w.alloc (.cells (madeCells #[.int .i64 0] NM) 3)) NM (fun _ => 0)) := ⟨World.rowIs_made w (.int .i64 0) NM 3, (Below.refl _ _).alloc (Nat.le_refl _) _⟩
  have HC := hide hc
  have HTT := hide hT
  have HXI := hide hxi
  have HYJ := hide hyj
  have HNM := hide hNM
  have hn1 : n ≤ i - a + 2 := by omega
  have hn2 : i - a + 2 ≤ n := by omega
  have hm1 : m ≤ j - b + 2 := by omega
  have hm2 : j - b + 2 ≤ m := by omega
  clear hc hT hxi hyj hn hm hNM
  go_enter Tryd.func22, Tryd.ntmps22
  go_wp2_with fail
  go_loopw [20, 21, 22, 23, 24, 25, 26] (fun pv _ _ _ _ _ _ wr => ∃ p : Nat, p ≤ n ∧ pv = .int .i64 (p : Int) ∧ ∃ D, Dt w wr NM D ∧ Filled X Y a b m p 0 D) (fun pv _ _ _ _ _ _ _ => n - (intOf pv).toNat)
  case atStart => exact ⟨0, Nat.zero_le _, rfl, _, unhide HST, ⟨fun p' q' h => by omega, fun q' h => by omega⟩⟩
  case round =>
    clear HST k1 k2 hmk
    obtain ⟨p, hp, rfl, D, hD, hfl⟩ := hrel
    by_cases hpn : p < n
    · have HD := hide hD
      have HFL := hide hfl
      obtain ⟨PM, hPM⟩ : ∃ PM, PM = p * m := ⟨_, rfl⟩
      have hPMb : PM + m ≤ NM := by
        have := Nat.mul_le_mul_right m (show p + 1 ≤ n from hpn)
        rw [Nat.add_mul, Nat.one_mul, ← unhide HNM, ← hPM] at this
        exact this
      have ePM : (p : Int) * (m : Int) = (PM : Int) := by rw [hPM]; exact (Int.natCast_mul _ _).symm
      have HPM := hide hPM
      clear hD hfl hPM
      go_wp2_with fail
      go_loopw [21, 22, 23, 24, 25, 26] (fun qv _ _ _ _ _ wr => ∃ q : Nat, q ≤ m ∧ qv = .int .i64 (q : Int) ∧ ∃ D, Dt w wr NM D ∧ Filled X Y a b m p q D) (fun qv _ _ _ _ _ _ => m - (intOf qv).toNat)
      case atStart => exact ⟨0, Nat.zero_le _, rfl, D, unhide HD, unhide HFL⟩
      case round =>
        clear HD HFL
        obtain ⟨q, hq, rfl, D2, hD, hfl⟩ := hrel
        have HD := hide hD
        have HFL := hide hfl
        by_cases hqm : q < m
        · have hcell := hD.1.cell (i := PM + q) (by omega)
          have hfroz := hD.1.frozen (PM + q)
          have HSET : Hid (∀ (k : Nat) (v : Int), v = vP X Y a b p q → ∃ D, Dt w ((wr.drewN k).setCell ⟨w.heap.size, PM + q, none⟩ (.int .i64 v)) NM D ∧ Filled X Y a b m p (q + 1) D) := fun k v hv => by
            refine ⟨_, ((hD.drew k).set (PM + q) v), ?_⟩
            rw [unhide HPM]
            exact hfl.set hv
          have HSET0 : Hid (∀ (v : Int), v = vP X Y a b p q → ∃ D, Dt w (wr.setCell ⟨w.heap.size, PM + q, none⟩ (.int .i64 v)) NM D ∧ Filled X Y a b m p (q + 1) D) := fun v hv => by
            refine ⟨_, (hD.set (PM + q) v), ?_⟩
            rw [unhide HPM]
            exact hfl.set hv
          by_cases hp0 : p = 0
          · have hp0' : ((p : Int) == 0) = true := by simp [hp0]
            have HV : Hid ((p : Int) + (q : Int) = vP X Y a b p q) := by show _ = _; rw [hp0, vP_zero hY (unhide HYJ) (by omega)]; simp
            clear hp0 hD hfl
            as_aux_lemma =>
              go_wp2_with fail
              go_roundw
              case rel => exact ⟨q + 1, by omega, by go_num, unhide HSET0 _ (unhide HV)⟩
              case measure => simp [intOf]; omega
          · have hp0' : ((p : Int) == 0) = false := by simp; omega
            by_cases hq0 : q = 0
            · have hq0' : ((q : Int) == 0) = true := by simp [hq0]
              have HV : Hid ((p : Int) + (q : Int) = vP X Y a b p q) := by show _ = _; rw [hq0, vP_zero' hX (unhide HXI) (by omega)]; simp
              clear hq0 hp0 hD hfl
              as_aux_lemma =>
                go_wp2_with fail
                go_roundw
                case rel => exact ⟨q + 1, by omega, by go_num, unhide HSET0 _ (unhide HV)⟩
                case measure => simp [intOf]; omega
            · have hq0' : ((q : Int) == 0) = false := by simp; omega
              obtain ⟨p1, hp1⟩ : ∃ p1, p = p1 + 1 := ⟨p - 1, by omega⟩
              obtain ⟨q1, hq1⟩ : ∃ q1, q = q1 + 1 := ⟨q - 1, by omega⟩
              obtain ⟨u, hu⟩ : ∃ u, u = a + p1 := ⟨_, rfl⟩
              obtain ⟨v, hv⟩ : ∃ v, v = b + q1 := ⟨_, rfl⟩
              have hul : u < X.length := by omega
              have hvl : v < Y.length := by omega
              obtain ⟨⟨x, fu⟩, hxu⟩ : ∃ x, X[u]? = some x := ⟨_, List.getElem?_eq_getElem hul⟩
              obtain ⟨⟨y, gv⟩, hyv⟩ : ∃ y, Y[v]? = some y := ⟨_, List.getElem?_eq_getElem hvl⟩
              have hfu := hX.le u x fu hxu
              have hgv := hY.le v y gv hyv
              have hau := hX.in_ i u xi a x fu (unhide HXI) hxu (by omega) (by omega)
              have hbv := hY.in_ j v yj b y gv (unhide HYJ) hyv (by omega) (by omega)
              have cw := (unhide HC).below (w' := wr) hD.2
              have f1 := cw.f.at_ u fu (by rw [List.getElem?_map, hxu]; rfl)
              have f2 := cw.g.at_ v gv (by rw [List.getElem?_map, hyv]; rfl)
              obtain ⟨x0, x1, x2⟩ := cw.x.cell0 (i := u) (x := x) (by rw [List.getElem?_map, hxu]; rfl)
              obtain ⟨y0, y1, y2⟩ := cw.y.cell0 (i := v) (x := y) (by rw [List.getElem?_map, hyv]; rfl)
              have t1 := cw.t.outer u hul
              have t2 := cw.t.cell (r := u) (c := v) hul hvl
              obtain ⟨PM1, hPM1⟩ : ∃ PM1, PM1 = p1 * m := ⟨_, rfl⟩
              obtain ⟨fa, hfa⟩ : ∃ fa, fa = fu - a := ⟨_, rfl⟩
              obtain ⟨FM, hFM⟩ : ∃ FM, FM = fa * m := ⟨_, rfl⟩
              have hPMe : PM = PM1 + m := by rw [unhide HPM, hPM1, hp1, Nat.add_mul, Nat.one_mul]
              have hFMb : FM + m ≤ NM := by
                have := Nat.mul_le_mul_right m (show fa + 1 ≤ n by omega)
                rw [Nat.add_mul, Nat.one_mul, ← unhide HNM, ← hFM] at this
                exact this
              obtain ⟨Ia, hIa⟩ : ∃ I, I = PM1 + q := ⟨_, rfl⟩
              obtain ⟨Ib, hIb⟩ : ∃ I, I = PM + q1 := ⟨_, rfl⟩
              obtain ⟨Id, hId⟩ : ∃ I, I = PM1 + q1 := ⟨_, rfl⟩
              obtain ⟨Ie, hIe⟩ : ∃ I, I = FM + (gv - b) := ⟨_, rfl⟩
              have d1 := hD.1.cell (i := Ia) (by omega)
              have d2 := hD.1.cell (i := Ib) (by omega)
              have d3 := hD.1.cell (i := Id) (by omega)
              have d4 := hD.1.cell (i := Ie) (by omega)
              have w1 : D2 Ia = vP X Y a b p1 q := by rw [hIa, hPM1]; exact hfl.1 p1 q (by omega) (by omega)
              have w2 : D2 Ib = vP X Y a b p q1 := by rw [hIb, unhide HPM]; exact hfl.2 q1 (by omega)
              have w3 : D2 Id = vP X Y a b p1 q1 := by rw [hId, hPM1]; exact hfl.1 p1 q1 (by omega) (by omega)
              have w4 : D2 Ie = vP X Y a b fa (gv - b) := by rw [hIe, hFM]; exact hfl.1 fa (gv - b) (by omega) (by omega)
              rw [w1] at d1
              rw [w2] at d2
              rw [w3] at d3
              rw [w4] at d4
              have b1 := vP_le hX hY (unhide HXI) (unhide HYJ) (p := p1) (q := q) (by omega) (by omega)
              have b2 := vP_le hX hY (unhide HXI) (unhide HYJ) (p := p) (q := q1) (by omega) (by omega)
              have b3 := vP_le hX hY (unhide HXI) (unhide HYJ) (p := p1) (q := q1) (by omega) (by omega)
              have b4 := vP_le hX hY (unhide HXI) (unhide HYJ) (p := fa) (q := gv - b) (by omega) (by omega)
              have b5 := dQ_le hX hY hul hvl
              have HST : Hid (∀ K : Int, (fu = a ∧ gv = b ∧ K = vP X Y a b p1 q1 + (Dist.rel (labW x) (labW y) : Int)) ∨ K = vP X Y a b fa (gv - b) + dQ X Y u v → vP X Y a b p q = min (min (vP X Y a b p1 q + 1) (vP X Y a b p q1 + 1)) K) := fun K hK => by
                have := vP_step hX hY (p := p1) (q := q1) (by rw [← hu]; exact hxu) (by rw [← hv]; exact hyv) hau hbv K (by rw [← hu, ← hv, ← hfa]; exact hK)
                rw [← hp1, ← hq1] at this
                exact this
              have HTU : Hid (fu ≠ a ∨ gv ≠ b → T u v = dQ X Y u v) := fun hne => by
                refine unhide HTT u v hul hvl ?_
                rcases Nat.lt_or_ge u i with r | r
                · exact .inl r
                · have hui : u = i := by omega
                  refine .inr ⟨hui, ?_⟩
                  rw [hui] at hxu
                  have e1 := (unhide HXI).symm.trans hxu
                  have e2 : a = fu := by injection e1 with e1; injection e1
                  have hne2 : gv ≠ b := by
                    rcases hne with r' | r'
                    · exact absurd e2.symm r'
                    · exact r'
                  have : v ≠ j := fun hvj => by
                    rw [hvj] at hyv
                    have e3 := (unhide HYJ).symm.trans hyv
                    have e4 : b = gv := by injection e3 with e3; injection e3
                    exact hne2 e4.symm
                  omega
              have ep1 : (p : Int) - 1 = (p1 : Int) := by omega
              have eu : (a : Int) + p - 1 = (u : Int) := by omega
              have ev : (b : Int) + q - 1 = (v : Int) := by omega
              have ePM1 : (p1 : Int) * (m : Int) = (PM1 : Int) := by rw [hPM1]; exact (Int.natCast_mul _ _).symm
              have eIa : (PM1 : Int) + q = (Ia : Int) := by omega
              have eIb : (PM : Int) + q - 1 = (Ib : Int) := by omega
              have eId : (Ia : Int) - 1 = (Id : Int) := by omega
              have efa : (fu : Int) - a = (fa : Int) := by omega
              have eFM : (fa : Int) * (m : Int) = (FM : Int) := by rw [hFM]; exact (Int.natCast_mul _ _).symm
              have eIe : (FM : Int) + gv - b = (Ie : Int) := by omega
              have n1 : Ia < NM := by omega
              have n2 : Ib < NM := by omega
              have n3 : Id < NM := by omega
              have n4 : Ie < NM := by omega
              have HCS : Hid ((fu = a ∧ gv = b) ∨ (fu = a ∧ gv ≠ b) ∨ fu ≠ a) := by
                show _
                by_cases h1 : fu = a
                · by_cases h2 : gv = b
                  · exact .inl ⟨h1, h2⟩
                  · exact .inr (.inl ⟨h1, h2⟩)
                · exact .inr (.inr h1)
              have hq1b : q1 ≤ 2000 := by omega
              have hp1b : p1 ≤ 2000 := by omega
              clear hD hfl hp0 hq0 hp1 hq1 hu hv hxu hyv cw hPM1 hfa hFM hPMe hIa hIb hId hIe w1 w2 w3 w4
              generalize vP X Y a b p1 q = V1 at *
              generalize vP X Y a b p q1 = V2 at *
              generalize vP X Y a b p1 q1 = V3 at *
              generalize vP X Y a b fa (gv - b) = V4 at *
              generalize dQ X Y u v = V5 at *
              have b1' : 0 ≤ V1 ∧ V1 ≤ 5000 := by omega
              have b2' : 0 ≤ V2 ∧ V2 ≤ 5000 := by omega
              have b3' : 0 ≤ V3 ∧ V3 ≤ 5000 := by omega
              have b4' : 0 ≤ V4 ∧ V4 ≤ 5000 := by omega
              have b5' : 0 ≤ V5 ∧ V5 ≤ 5000 := by omega
              clear b1 b2 b3 b4 b5
              obtain ⟨b1, b1'⟩ := b1'
              obtain ⟨b2, b2'⟩ := b2'
              obtain ⟨b3, b3'⟩ := b3'
              obtain ⟨b4, b4'⟩ := b4'
              obtain ⟨b5, b5'⟩ := b5'
              go_upto_if 103 with fail
              go_cut [24] from 52 to 192 (fun bst wx => bst = .int .i64 (min (V1 + 1) (V2 + 1)) ∧ wx = wr)
              case first =>
                by_cases c1 : V2 + 1 < V1 + 1
                · go_wp2_with fail
                  go_meet
                  case rel => exact ⟨by congr 1; omega, rfl⟩
                · go_wp2_with fail
                  go_meet
                  case rel => exact ⟨by congr 1; omega, rfl⟩
              case rest =>
                obtain ⟨rfl, hwc⟩ := hcut
                have hwc := hwc.symm
                subst hwc
                have hBv : 0 ≤ min (V1 + 1) (V2 + 1) ∧ min (V1 + 1) (V2 + 1) ≤ 6000 := by omega
                generalize min (V1 + 1) (V2 + 1) = Bv at *
                obtain ⟨bv1, bv2⟩ := hBv
                rcases unhide HCS with ⟨h1, h2⟩ | ⟨h1, h2⟩ | h1
                · have h1' : ((fu : Int) == (a : Int)) = true := by simp [h1]
                  have h2' : ((gv : Int) == (b : Int)) = true := by simp [h2]
                  have HK := hide (fun r (hr : (Dist.rel (labW x) (labW y) : Int) = r) => unhide HST (V3 + r) (.inl ⟨h1, h2, by rw [hr]⟩))
                  clear h1 h2 HST HTU HCS
                  have HLB : Hid ((x.inner = y.inner ∧ x.text.toList = y.text.toList ∧ (Dist.rel (labW x) (labW y) : Int) = 0) ∨ (x.inner = y.inner ∧ x.text.toList ≠ y.text.toList ∧ (Dist.rel (labW x) (labW y) : Int) = 1) ∨ (x.inner ≠ y.inner ∧ (Dist.rel (labW x) (labW y) : Int) = 1)) := by
                    show _
                    have et : (x.text = y.text) ↔ (x.text.toList = y.text.toList) := ⟨fun h => by rw [h], ba_same⟩
                    unfold Dist.rel labW
                    by_cases r1 : x.inner = y.inner
                    · by_cases r2 : x.text.toList = y.text.toList
                      · exact .inl ⟨r1, r2, by simp [r1, et.2 r2]⟩
                      · exact .inr (.inl ⟨r1, r2, by simp [mt et.1 r2]⟩)
                    · exact .inr (.inr ⟨r1, by simp [r1]⟩)
                  generalize x.inner = bx at *
                  generalize y.inner = bz at *
                  generalize x.text = tx at *
                  generalize y.text = tz at *
                  rcases unhide HLB with ⟨r1, r2, r3⟩ | ⟨r1, r2, r3⟩ | ⟨r1, r3⟩
                  · have HK2 := hide (unhide HK _ r3)
                    rw [Int.add_zero] at HK2
                    have r2' := ba_same r2
                    clear r2 r3 HK HLB
                    subst r1 r2'
                    as_aux_lemma =>
                      go_wp2_with fail
                      go_quiet (fail)
                      go_upto_if 183 with fail
                      go_cut [24] from 52 to 192 (fun bst wx => bst = .int .i64 (min Bv (V3)) ∧ wx = wr.drewN nq)
                      case first =>
                        by_cases c3 : V3 < Bv
                        · go_wp2_with fail
                          go_meet
                          case rel => exact ⟨by congr 1; omega, rfl⟩
                        · go_wp2_with fail
                          go_meet
                          case rel => exact ⟨by congr 1; omega, rfl⟩
                      case rest =>
                        obtain ⟨rfl, rfl⟩ := hcut
                        have hb6 : 0 ≤ min Bv (V3) ∧ min Bv (V3) ≤ 20000 := by omega
                        have HK3 := hide (unhide HSET nq _ (unhide HK2).symm)
                        clear HK2
                        generalize min Bv (V3) = Fv at *
                        go_wp2_with fail
                        go_roundw
                        case rel => exact ⟨q + 1, by omega, by go_num, unhide HK3⟩
                        case measure => simp [intOf]; omega
                  · have HK2 := hide (unhide HK _ r3)
                    have r2' : (tx.toList == tz.toList) = false := by simpa using r2
                    clear r2 r3 HK HLB
                    subst r1
                    as_aux_lemma =>
                      go_wp2_with fail
                      go_quiet (fail)
                      go_upto_if 183 with fail
                      go_cut [24] from 52 to 192 (fun bst wx => bst = .int .i64 (min Bv (V3 + 1)) ∧ wx = wr.drewN nq)
                      case first =>
                        by_cases c3 : V3 + 1 < Bv
                        · go_wp2_with fail
                          go_meet
                          case rel => exact ⟨by congr 1; omega, rfl⟩
                        · go_wp2_with fail
                          go_meet
                          case rel => exact ⟨by congr 1; omega, rfl⟩
                      case rest =>
                        obtain ⟨rfl, rfl⟩ := hcut
                        have hb6 : 0 ≤ min Bv (V3 + 1) ∧ min Bv (V3 + 1) ≤ 20000 := by omega
                        have HK3 := hide (unhide HSET nq _ (unhide HK2).symm)
                        clear HK2
                        generalize min Bv (V3 + 1) = Fv at *
                        go_wp2_with fail
                        go_roundw
                        case rel => exact ⟨q + 1, by omega, by go_num, unhide HK3⟩
                        case measure => simp [intOf]; omega
                  · have HK2 := hide (unhide HK _ r3)
                    obtain rfl : bz = !bx := by cases bx <;> cases bz <;> simp_all
                    clear r1 r3 HK HLB
                    as_aux_lemma =>
                      go_wp2_with fail
                      go_quiet (fail)
                      go_upto_if 183 with fail
                      go_cut [24] from 52 to 192 (fun bst wx => bst = .int .i64 (min Bv (V3 + 1)) ∧ wx = wr.drewN nq)
                      case first =>
                        by_cases c3 : V3 + 1 < Bv
                        · go_wp2_with fail
                          go_meet
                          case rel => exact ⟨by congr 1; omega, rfl⟩
                        · go_wp2_with fail
                          go_meet
                          case rel => exact ⟨by congr 1; omega, rfl⟩
                      case rest =>
                        obtain ⟨rfl, rfl⟩ := hcut
                        have hb6 : 0 ≤ min Bv (V3 + 1) ∧ min Bv (V3 + 1) ≤ 20000 := by omega
                        have HK3 := hide (unhide HSET nq _ (unhide HK2).symm)
                        clear HK2
                        generalize min Bv (V3 + 1) = Fv at *
                        go_wp2_with fail
                        go_roundw
                        case rel => exact ⟨q + 1, by omega, by go_num, unhide HK3⟩
                        case measure => simp [intOf]; omega
                · have h1' : ((fu : Int) == (a : Int)) = true := by simp [h1]
                  have h2' : ((gv : Int) == (b : Int)) = false := by simp; omega
                  have HT5 := hide (unhide HTU (.inr h2))
                  rw [unhide HT5] at t2
                  have HK2 := hide (unhide HST (V4 + V5) (.inr rfl))
                  clear h1 h2 HST HTU HCS
                  as_aux_lemma =>
                    go_wp2_with fail
                    go_quiet (fail)
                    go_upto_if 183 with fail
                    go_cut [24] from 52 to 192 (fun bst wx => bst = .int .i64 (min Bv (V4 + V5)) ∧ wx = wr.drewN nq)
                    case first =>
                      by_cases c3 : V4 + V5 < Bv
                      · go_wp2_with fail
                        go_meet
                        case rel => exact ⟨by congr 1; omega, rfl⟩
                      · go_wp2_with fail
                        go_meet
                        case rel => exact ⟨by congr 1; omega, rfl⟩
                    case rest =>
                      obtain ⟨rfl, rfl⟩ := hcut
                      have hb6 : 0 ≤ min Bv (V4 + V5) ∧ min Bv (V4 + V5) ≤ 20000 := by omega
                      have HK3 := hide (unhide HSET nq _ (unhide HK2).symm)
                      clear HK2
                      generalize min Bv (V4 + V5) = Fv at *
                      go_wp2_with fail
                      go_roundw
                      case rel => exact ⟨q + 1, by omega, by go_num, unhide HK3⟩
                      case measure => simp [intOf]; omega
                · have h1' : ((fu : Int) == (a : Int)) = false := by simp; omega
                  have HT5 := hide (unhide HTU (.inl h1))
                  rw [unhide HT5] at t2
                  have HK2 := hide (unhide HST (V4 + V5) (.inr rfl))
                  clear h1 HST HTU HCS
                  as_aux_lemma =>
                    go_wp2_with fail
                    go_quiet (fail)
                    go_upto_if 183 with fail
                    go_cut [24] from 52 to 192 (fun bst wx => bst = .int .i64 (min Bv (V4 + V5)) ∧ wx = wr.drewN nq)
                    case first =>
                      by_cases c3 : V4 + V5 < Bv
                      · go_wp2_with fail
                        go_meet
                        case rel => exact ⟨by congr 1; omega, rfl⟩
                      · go_wp2_with fail
                        go_meet
                        case rel => exact ⟨by congr 1; omega, rfl⟩
                    case rest =>
                      obtain ⟨rfl, rfl⟩ := hcut
                      have hb6 : 0 ≤ min Bv (V4 + V5) ∧ min Bv (V4 + V5) ≤ 20000 := by omega
                      have HK3 := hide (unhide HSET nq _ (unhide HK2).symm)
                      clear HK2
                      generalize min Bv (V4 + V5) = Fv at *
                      go_wp2_with fail
                      go_roundw
                      case rel => exact ⟨q + 1, by omega, by go_num, unhide HK3⟩
                      case measure => simp [intOf]; omega
        · have hqm' : q = m := by omega
          subst hqm'
          clear hD hfl
          go_wp2_with fail
          go_roundw
          case rel => exact ⟨p + 1, by omega, by go_num, D2, unhide HD, (unhide HFL).next⟩
          case measure => simp [intOf]; omega
    · obtain ⟨I, hI⟩ : ∃ I, I = NM - 1 := ⟨_, rfl⟩
      have hpos : 4 ≤ NM := by
        have := Nat.mul_le_mul (show 2 ≤ n by omega) (show 2 ≤ m by omega)
        rw [← unhide HNM] at this; exact this
      have eI : (NM : Int) - 1 = (I : Int) := by omega
      have hIe : I = (n - 1) * m + (m - 1) := by
        obtain ⟨n', hn'⟩ : ∃ n', n = n' + 1 := ⟨n - 1, by omega⟩
        have := unhide HNM
        rw [hn', Nat.add_mul, Nat.one_mul] at this
        rw [hn', Nat.add_sub_cancel]
        omega
      have hcell := hD.1.cell (i := I) (by omega)
      rw [hIe, hfl.1 (n - 1) (m - 1) (by omega) (by omega), ← hIe, show n - 1 = i + 1 - a by omega, show m - 1 = j + 1 - b by omega, ← unhide HRES] at hcell
      have HB := hide hD.2
      have hI1 : I ≤ NM - 1 := by omega
      clear hD hfl hI hIe
      go_wp2_with fail
      go_ret
      exact ⟨rfl, unhide HB⟩

end Go.Proofs.YtdaneedflpfeaaaDoor
