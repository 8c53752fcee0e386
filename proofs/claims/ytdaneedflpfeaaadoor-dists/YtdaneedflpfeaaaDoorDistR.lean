import Derived.Test.YtdaneedflpfeaaaDoorRows
import Derived.Test.YtdaneedflpfeaaaDoorRefToks
import Derived.Test.YtdaneedflpfeaaaDoorStr
import Derived.ProofKit
import Derived.LaidMore
import Derived.Lib.LaidTab
import Derived.Test.YtdaneedflpfeaaaDoorDistM
import Derived.Test.YtdaneedflpfeaaaDoorDistQ
import Derived.Deep.RegionHeld3
import Derived.Test.YtdaneedflpfeaaaDoorRefParse
import Derived.Test.YtdaneedflpfeaaaDoorCards
import Derived.Test.YtdaneedflpfeaaaDoorTie
import Derived.OpenShut
import Derived.ShutString
import Derived.Stop.Joined
import Derived.SevenTiedAt
namespace Go.Proofs.YtdaneedflpfeaaaDoor
set_option maxRecDepth 100000
open Go.ChangeShapes Go.WideShapes Go.ChangeAt Go.RowKit

theorem own : ownKnob Tryd.prog.godebug = none := by kernel_rfl
theorem gKeys : Tryd.prog.globalNamed "treediff/treediffref.keywords" = some 0 := by kernel_rfl
theorem gSigns : Tryd.prog.globalNamed "treediff/treediffref.signs" = some 1 := by kernel_rfl
theorem tKeys : (Tryd.prog.globals[0]?).map (·.type) = some 75 := by kernel_rfl
theorem tSigns : (Tryd.prog.globals[1]?).map (·.type) = some 76 := by kernel_rfl
/-- The two tables, as the rows list them. -/
abbrev laid2 : List (String × DataW Unit) := [("treediff/treediffref.signs", Rows.laid_treediff_treediffref_signs), ("treediff/treediffref.keywords", Rows.laid_treediff_treediffref_keywords)]

/-- An array of texts that reads as a table holds the table's texts, cell for cell. -/
theorem cells_of_strs {H : Type} {enc : TypeId × Value → H} {P : Program} {w : World} {base : Nat} {sp : Nat → Bool} {held : Bool} {fuel : Nat} {t e : TypeId} {n : Nat} {cs : List Value} {ss : List (List UInt8)} {p : List MemPlace}
    (ht : P.underlying t = some (.array n e)) (he : P.underlying e = some .string) (hce : P.cellsOf e = 1) (hct : P.cellsOf t = n)
    (h : DataW.trod enc P w base sp held fuel t cs = some (.agg (ss.map fun s => .lit (.string s)), p)) : cs = ss.map fun s => Value.string (mk s) := by
  cases fuel with
  | zero => simp [DataW.trod] at h
  | succ fuel =>
    simp only [DataW.trod, ht, hce, hct, Nat.mul_one] at h
    split at h
    · rename_i hl
      obtain ⟨xs, hm, hx⟩ := Option.map_eq_some_iff.1 h
      have hxs : xs.map (·.1) = ss.map fun s => (DataW.lit (.string s) : DataW H) := by
        have := congrArg Prod.fst hx
        simpa using this
      have hxl : xs.length = n := by simpa using Go.Lib.mapM_length hm
      have hzl : ss.length = n := by
        have := congrArg List.length hxs
        simp at this
        omega
      apply List.ext_getElem?
      intro i
      by_cases hi : i < n
      · obtain ⟨b, hb, hf⟩ := Go.Lib.mapM_at hm i i (by simp [hi])
        obtain ⟨z, hc, rfl, _⟩ := DataW.trod_string he hf
        have h1 : cs[i]? = some (.string z) := by
          have := congrArg (·[0]?) hc
          simpa [List.getElem?_take, List.getElem?_drop] using this
        have h2 : (xs.map (·.1))[i]? = some (DataW.lit (.string z.data.toList) : DataW H) := by simp [hb]
        rw [hxs] at h2
        simp only [List.getElem?_map, Option.map_eq_some_iff, DataW.lit.injEq, Lit.string.injEq] at h2
        obtain ⟨z', hz', e⟩ := h2
        simp only [h1, List.getElem?_map, hz', Option.map_some, e]
        rw [mk_data]
      · rw [List.getElem?_eq_none (by omega), List.getElem?_eq_none (by simp; omega)]
    · cases h
theorem block_of_var {P : Program} {w : World} {n : String} {g : Nat} {cs : Array Value} (hg : P.globalNamed n = some g) (h : w.var? P n = some cs) : ∃ T fr, w.heap[g]? = some (.cells cs T fr) := by
  simp only [World.var?, hg, Option.bind_some] at h
  split at h
  · rename_i cs' T fr he
    cases h
    exact ⟨T, fr, he⟩
  · cases h
/-- What the listed variables give the walks. -/
theorem glob_of {W : World} (h : laidMetH Tryd.prog laid2 W) : Glob W ∧ 2 ≤ W.heap.size := by
  rw [MakeChecks.laidMetH_plain _ _ _ (by kernel_rfl)] at h
  obtain ⟨ps, ⟨g0, t0, cs0, f0, p0, q0, hg0, ht0, hv0, hd0, ⟨g1, t1, cs1, f1, p1, q1, hg1, ht1, hv1, hd1, _, _⟩, _⟩, _⟩ := h
  obtain rfl := Option.some.inj (gSigns.symm.trans hg0)
  obtain rfl := Option.some.inj (gKeys.symm.trans hg1)
  obtain rfl := Option.some.inj (tSigns.symm.trans ht0)
  obtain rfl := Option.some.inj (tKeys.symm.trans ht1)
  have c9 : Tryd.prog.cellsOf 9 = 1 := by kernel_rfl
  have c7 : Tryd.prog.cellsOf 75 = 7 := by kernel_rfl
  have c18 : Tryd.prog.cellsOf 76 = 18 := by kernel_rfl
  have e0 := cells_of_strs (ss := sgs.map (·.data.toList)) Tryd.underlying76 Tryd.underlying9 c9 c18 hd0
  have e1 := cells_of_strs (ss := kws.map (·.data.toList)) Tryd.underlying75 Tryd.underlying9 c9 c7 hd1
  have s0 : cs0 = sgV := Array.toList_inj.1 (e0.trans rfl)
  have s1 : cs1 = kwV := Array.toList_inj.1 (e1.trans rfl)
  subst s0 s1
  have b0 := block_of_var hg0 hv0
  have b1 := block_of_var hg1 hv1
  refine ⟨⟨b1, b0⟩, ?_⟩
  obtain ⟨T, fr, hb⟩ := b0
  rcases Nat.lt_or_ge 1 W.heap.size with hlt | hge
  · exact hlt
  · rw [Array.getElem?_eq_none (by omega)] at hb; cases hb
/-- The door's own heap meets the condition. -/
theorem door_met (os : Os) (args : Array Value) : laidMetH Tryd.prog laid2 ((World.doorLaid Tryd.prog 400 os).forCall (fun _ _ => 0) ⟨#[], args, []⟩).memory :=
  laidMetH_of_parts3 (fuel := 8) (laidMet_of_run' 8 (by kernel_rfl) (by kernel_rfl)) (by kernel_rfl) (by kernel_rfl)

end Go.Proofs.YtdaneedflpfeaaaDoor

namespace Go.Proofs.YtdaneedflpfeaaaDoor
set_option maxRecDepth 100000
open Go.RowKit

theorem grown_below {w w' : World} (h : w.grownBy w' none) : Below w.heap.size w w' := ⟨h.os, h.tape, h.output, h.size, fun k hk => h.block k hk (fun e => by cases e)⟩
theorem own_capD {w : World} {base n : Nat} {e : TypeId} {size : Nat} {v : Value} {xs : List Value} (h : w.ownsRow base e size v n xs) (hn : 0 < n) : ∃ g cap, v = .slice (some ⟨g, 0, none⟩) n cap ∧ g < w.heap.size ∧ n ≤ cap ∧ cap ≤ maxLen := by
  rcases h.2 with ⟨_, h0⟩ | ⟨g, cap, cur, rfl, _, hg, h1, h2, _⟩
  · omega
  · exact ⟨g, cap, rfl, (Array.getElem?_eq_some_iff.1 hg).1, h1, h2⟩
set_option maxHeartbeats 3200000 in
set_option maxRecDepth 100000 in
theorem refDist_any (l m : List Rw) (ul um : Value) (bl bm : Nat) (w : World) (hl : l.length ≤ 500) (hm : m.length ≤ 500) (hdl : ∀ x ∈ l, x.deep ≤ 99999) (hdm : ∀ x ∈ m, x.deep ≤ 99999)
    (hol : w.ownsRow bl 48 3 ul l.length (rwsCells l)) (hom : w.ownsRow bm 48 3 um m.length (rwsCells m)) :
    Calls Tryd.prog 10 #[ul, um] w fun e w' => e = .returned (.int .i64 (dlR l m : Int)) ∧ Below w.heap.size w w' := by
  have HNL := hide (fun k => node_any k ul w l bl hol (by omega) hdl)
  have HNM := hide (fun k w1 (hb : Below w.heap.size w w1) => node_any k um w1 m bm (row_below hom (fun j hj => (hom.lt j hj).2) hb) (by omega) hdm)
  have HRES := hide (dQ_last ⟨#[114, 111, 111, 116]⟩ l m)
  have hln := nodeR_len ⟨#[114, 111, 111, 116]⟩ l
  have hmn := nodeR_len ⟨#[114, 111, 111, 116]⟩ m
  clear hol hom hdl hdm
  go_enter Tryd.func10, Tryd.ntmps10
  go_wp2_with fail
  refine (unhide HNL _).mono ?_
  rintro e w1 ⟨v1, rfl, hg1, ho1⟩
  have hB1 := grown_below hg1
  have HB1 := hide hB1
  have HO1 := hide ho1
  have hs1 := hB1.size
  clear hg1 ho1 hB1 HNL
  go_wp2_with fail
  refine (unhide HNM _ _ (unhide HB1)).mono ?_
  rintro e w2 ⟨v2, rfl, hg2, ho2⟩
  have hB2 := grown_below hg2
  have HB2 := hide ((unhide HB1).trans (hB2.mono hs1))
  have hs2 := hB2.size
  have ho1 := row_below (unhide HO1) (fun j hj => ((unhide HO1).lt j hj).2) hB2
  generalize nodeR ⟨#[114, 111, 111, 116]⟩ l = LA at *
  generalize nodeR ⟨#[114, 111, 111, 116]⟩ m = MA at *
  have hLb : LA.length ≤ 501 := by omega
  have hMb : MA.length ≤ 501 := by omega
  have hL1 : 1 ≤ LA.length := by omega
  have hM1 : 1 ≤ MA.length := by omega
  have HLN := hide hln
  have HMN := hide hmn
  clear hln hmn
  obtain ⟨g1, c1, rfl, hgl1, hc1, hcm1⟩ := own_capD ho1 (by omega)
  obtain ⟨g2, c2, rfl, hgl2, hc2, hcm2⟩ := own_capD ho2 (by omega)
  have HR1 := hide (RA.of_own ho1 hgl1 rfl)
  have HR2 := hide (RA.of_own ho2 hgl2 rfl)
  have HTL := hide (refTree_any (LA.length + 1) LA g1 0 c1 w2 (by omega) (by omega) hc1 hcm1 (unhide HR1))
  clear hg2 ho2 hB2 ho1 HO1 HNM HB1
  go_wp2_with fail
  refine (unhide HTL).mono ?_
  rintro e w3 ⟨hB3, x, f, rfl, ht3⟩
  have HB3 := hide ((unhide HB2).trans (hB3.mono (by omega)))
  have hs3 := hB3.size
  have HTR3 := hide ht3
  have HTM := hide (refTree_any (MA.length + 1) MA g2 0 c2 w3 (by omega) (by omega) hc2 hcm2 ((unhide HR2).below hB3 hgl2))
  clear hB3 ht3 HTL HB2 HR1
  go_wp2_with fail
  refine (unhide HTM).mono ?_
  rintro e w4 ⟨hB4, y, g, rfl, ht4⟩
  have HB4 := hide ((unhide HB3).trans (hB4.mono (by omega)))
  have hs4 := hB4.size
  have ht34 := (unhide HTR3).below hB4
  have lX : ((poR LA).map Prod.fst).length = LA.length := by rw [List.length_map, poR_len]
  have lX2 : ((poR LA).map Prod.snd).length = LA.length := by rw [List.length_map, poR_len]
  have lY : ((poR MA).map Prod.fst).length = MA.length := by rw [List.length_map, poR_len]
  have lY2 : ((poR MA).map Prod.snd).length = MA.length := by rw [List.length_map, poR_len]
  have hnX := poR_nest LA
  have hnY := poR_nest MA
  have lXX := poR_len LA
  have lYY := poR_len MA
  obtain ⟨gx, cx, rfl, hgx, _, _⟩ := own_capD ht34.o1 (by omega)
  obtain ⟨gf, cf, rfl, hgf, _, _⟩ := own_capD ht34.o2 (by omega)
  obtain ⟨gy, cy, rfl, hgy, _, _⟩ := own_capD ht4.o1 (by omega)
  obtain ⟨gg, cg, rfl, hgg, _, _⟩ := own_capD ht4.o2 (by omega)
  have HX := hide (RA.of_own ht34.o1 hgx rfl)
  have HF := hide (IL.of_own ht34.o2 hgf)
  have HY := hide (RA.of_own ht4.o1 hgy rfl)
  have HG := hide (IL.of_own ht4.o2 hgg)
  rw [lX, lX2, lY, lY2]
  obtain ⟨n, hn⟩ : ∃ n, n = LA.length := ⟨_, rfl⟩
  obtain ⟨k, hk⟩ : ∃ k, k = MA.length := ⟨_, rfl⟩
  rw [← hn, ← hk]
  have hln := unhide HLN
  have hmn := unhide HMN
  rw [← hn] at lXX hln
  rw [← hk] at lYY hmn
  generalize poR LA = X at *
  generalize poR MA = Y at *
  have hnl : n ≤ 501 := by omega
  have hkl : k ≤ 501 := by omega
  have hn1 : 1 ≤ n := by omega
  have hk1 : 1 ≤ k := by omega
  have HRES2 : Hid (dQ X Y (n - 1) (k - 1) = (dlR l m : Int)) := by
    show _ = _
    rw [hln, hmn, Nat.add_sub_cancel, Nat.add_sub_cancel]; exact unhide HRES
  have HLX := hide lXX
  have HLY := hide lYY
  clear hB4 ht4 ht34 HTR3 HTM HB3 HR2 lX lX2 lY lY2 lXX lYY hln hmn hn hk HLN HMN hc1 hcm1 hc2 hcm2 HRES
  have hmk0 := run_make_row' (P := Tryd.prog) 60 57 (.slice none 0 0) 24 Tryd.underlying60 Tryd.infoInts rfl .i64 .i64 n (by omega) (by omega)
  have hmk1 := run_make_row' (P := Tryd.prog) 57 3 (.int .i64 0) 8 Tryd.underlying57 Tryd.infoInt rfl .i64 .i64 k (by omega) (by omega)
  go_wp2_with fail
  have HFOR : Hid (∀ wr T, Tab wr w4.heap.size w4.heap.size X.length Y.length (fun r => w4.heap.size + 1 + r) T → Below w4.heap.size w4 wr → For wr X Y gx gf gy gg w4.heap.size w4.heap.size (fun r => w4.heap.size + 1 + r) T) := fun wr T ht hb =>
    ⟨(unhide HX).below hb hgx, (unhide HF).heap (hb.block _ hgf), (unhide HY).below hb hgy, (unhide HG).heap (hb.block _ hgg), ht⟩
  have hs4' : w.heap.size ≤ w4.heap.size := by omega
  go_loopw [10, 32] (fun _ c wr => ∃ r : Nat, r ≤ n ∧ c = .int .i64 (r : Int) ∧ Mk w4 wr n k r) (fun _ c _ => n - (intOf c).toNat)
  case atStart => exact ⟨0, Nat.zero_le _, rfl, Mk.start w4 n k⟩
  case round =>
    obtain ⟨r, hr, rfl, hmk⟩ := hrel
    by_cases hrn : r < n
    · have o1 := (hmk.outer.alloc (.cells (madeCells #[.int .i64 0] k) 3)).cell hrn
      have o2 := (hmk.outer.alloc (.cells (madeCells #[.int .i64 0] k) 3)).frozen r
      have HMK := hide hmk.next
      clear hmk
      go_wp2_with fail
      go_roundw
      case rel => exact ⟨r + 1, by omega, by go_num, unhide HMK⟩
      case measure => simp [intOf]; omega
    · have hrn' : r = n := by omega
      subst hrn'
      have HT := hide hmk.tab
      have HB := hide hmk.bel
      clear hmk hmk0 hmk1
      go_wp2_with fail
      go_loopw [11, 12, 44, 49] (fun _ _ c _ wr => ∃ u : Nat, u ≤ r ∧ c = .int .i64 (u : Int) ∧ (∃ T, Tab wr w4.heap.size w4.heap.size r k (fun r => w4.heap.size + 1 + r) T ∧ ∀ u' v', u' < u → v' < k → T u' v' = dQ X Y u' v') ∧ Below w4.heap.size w4 wr) (fun _ _ c _ _ => r - (intOf c).toNat)
      case atStart => exact ⟨0, Nat.zero_le _, rfl, ⟨_, unhide HT, fun u' v' h => by omega⟩, unhide HB⟩
      case round =>
        clear HT HB
        obtain ⟨u, hu, rfl, ⟨T, hT, hTu⟩, hB⟩ := hrel
        have HT := hide hT
        have HTU := hide hTu
        have HB := hide hB
        by_cases hur : u < r
        · clear hT hTu hB
          go_wp2_with fail
          go_loopw [12, 49] (fun _ c wr => ∃ v : Nat, v ≤ k ∧ c = .int .i64 (v : Int) ∧ (∃ T, Tab wr w4.heap.size w4.heap.size r k (fun r => w4.heap.size + 1 + r) T ∧ (∀ u' v', u' < u → v' < k → T u' v' = dQ X Y u' v') ∧ ∀ v', v' < v → T u v' = dQ X Y u v') ∧ Below w4.heap.size w4 wr) (fun _ c _ => k - (intOf c).toNat)
          case atStart => exact ⟨0, Nat.zero_le _, rfl, ⟨T, unhide HT, unhide HTU, fun v' h => by omega⟩, unhide HB⟩
          case round =>
            clear HT HTU HB
            obtain ⟨v, hv, rfl, ⟨T2, hT, hTu, hTv⟩, hB⟩ := hrel
            by_cases hvk : v < k
            · have HFR : Hid (∀ wx, Below wr.heap.size wr wx → Calls Tryd.prog 22 #[.slice (some ⟨gx, 0, none⟩) r cx, .slice (some ⟨gf, 0, none⟩) r cf, .slice (some ⟨gy, 0, none⟩) k cy, .slice (some ⟨gg, 0, none⟩) k cg, .slice (some ⟨w4.heap.size, 0, none⟩) r r, .int .i64 (u : Int), .int .i64 (v : Int)] wx fun e w' => e = .returned (.int .i64 (dQ X Y u v)) ∧ Below wx.heap.size wx w') := fun wx hwx => by
                have hBx : Below w4.heap.size w4 wx := hB.trans (hwx.mono hB.size)
                have := forests_any X Y gx cx gf cf gy cy gg cg w4.heap.size r w4.heap.size (fun r => w4.heap.size + 1 + r) T2 u v wx hnX hnY (by rw [unhide HLX]; exact hur) (by rw [unhide HLY]; exact hvk) (by rw [unhide HLX]; omega) (by rw [unhide HLY]; omega)
                  (unhide HFOR wx T2 (by rw [unhide HLX, unhide HLY]; exact hT.all hwx) hBx) (fun u' v' h1 h2 h3 => by
                    rw [unhide HLX] at h1
                    rw [unhide HLY] at h2
                    rcases h3 with q | ⟨q, q2⟩
                    · exact hTu u' v' q h2
                    · rw [q]; exact hTv v' q2)
                rw [unhide HLX, unhide HLY] at this
                exact this
              have HNEW : Hid (∀ wx, Below wr.heap.size wr wx → (∃ T, Tab (wx.setCell ⟨w4.heap.size + 1 + u, v, none⟩ (.int .i64 (dQ X Y u v))) w4.heap.size w4.heap.size r k (fun r => w4.heap.size + 1 + r) T ∧ (∀ u' v', u' < u → v' < k → T u' v' = dQ X Y u' v') ∧ ∀ v', v' < v + 1 → T u v' = dQ X Y u v') ∧ Below w4.heap.size w4 (wx.setCell ⟨w4.heap.size + 1 + u, v, none⟩ (.int .i64 (dQ X Y u v)))) := fun wx hwx => by
                refine ⟨⟨_, (hT.all hwx).set (j := v) hur _, fun u' v' h1 h2 => ?_, fun v' h1 => ?_⟩, (hB.trans (hwx.mono hB.size)).setCell (p := ⟨w4.heap.size + 1 + u, v, none⟩) (by show w4.heap.size ≤ w4.heap.size + 1 + u; omega) _⟩
                · rw [if_neg (by omega)]; exact hTu u' v' h1 h2
                · by_cases e : v' = v
                  · rw [if_pos ⟨rfl, e⟩, e]
                  · rw [if_neg (by omega)]; exact hTv v' (by omega)
              have HCL : Hid (∀ wx, Below wr.heap.size wr wx → wx.cell? ⟨w4.heap.size, u, none⟩ = some (.slice (some ⟨w4.heap.size + 1 + u, 0, none⟩) k k) ∧ wx.cell? ⟨w4.heap.size + 1 + u, v, none⟩ = some (.int .i64 (T2 u v)) ∧ wx.frozen? ⟨w4.heap.size + 1 + u, v, none⟩ = false) := fun wx hwx =>
                ⟨(hT.all hwx).outer u hur, (hT.all hwx).cell hur hvk, (hT.all hwx).frozen hur⟩
              have HDR : Hid (Below wr.heap.size wr wr.drew) := (Below.refl _ _).drew
              obtain ⟨p1, p2, p3⟩ := unhide HCL wr (Below.refl _ _)
              have HS0 : Hid (wr.drew.cell? ⟨w4.heap.size, u, none⟩ = some (.slice (some ⟨w4.heap.size + 1 + u, 0, none⟩) k k)) := p1
              have n1 : (0 : Int) ≤ (u : Int) := by omega
              have n2 : (0 : Int) ≤ (v : Int) := by omega
              have n3 : (u : Int) < (r : Int) := by omega
              have n4 : (v : Int) < (k : Int) := by omega
              clear hT hTu hTv hB
              go_wp2_with fail
              go_region_held3 (fun wq => wq.cell? ⟨w4.heap.size, u, none⟩ = some (.slice (some ⟨w4.heap.size + 1 + u, 0, none⟩) k k)) (first | exact unhide HS0 | exact unhide HS5 | exact unhide HSK _) (first | (go_at_call 22; refine (unhide HFR _ (unhide HDR)).mono ?_; rintro e w5 ⟨rfl, hB5⟩; have HB5 : Hid (Below wr.heap.size wr w5) := (unhide HDR).trans (hB5.mono (Nat.le_refl _)); obtain ⟨q1, q2, q3⟩ := unhide HCL w5 (unhide HB5); have HS5 : Hid (w5.cell? ⟨w4.heap.size, u, none⟩ = some (.slice (some ⟨w4.heap.size + 1 + u, 0, none⟩) k k)) := q1; have HSK : Hid (∀ x, (w5.setCell ⟨w4.heap.size + 1 + u, v, none⟩ x).cell? ⟨w4.heap.size, u, none⟩ = some (.slice (some ⟨w4.heap.size + 1 + u, 0, none⟩) k k)) := (fun x => (cell_heap (Below.heap_setCell _ _ _ _ (by show w4.heap.size ≠ w4.heap.size + 1 + u; omega))).trans q1); clear hB5))
              all_goals go_wp2_with fail
              all_goals go_roundw
              all_goals first
                | exact ⟨v + 1, by omega, by go_num, (unhide HNEW _ (unhide HB5)).1, (unhide HNEW _ (unhide HB5)).2⟩
                | (simp [intOf]; omega)
            · have hvk' : v = k := by omega
              subst hvk'
              have HF2 : Hid (∃ T, Tab wr w4.heap.size w4.heap.size r v (fun r => w4.heap.size + 1 + r) T ∧ ∀ u' v', u' < u + 1 → v' < v → T u' v' = dQ X Y u' v') := ⟨T2, hT, fun u' v' h1 h2 => by
                rcases Nat.lt_or_ge u' u with q | q
                · exact hTu u' v' q h2
                · have : u' = u := by omega
                  rw [this]; exact hTv v' h2⟩
              have HB := hide hB
              clear hT hTu hTv hB
              go_wp2_with fail
              go_roundw
              case rel => exact ⟨u + 1, by omega, by go_num, unhide HF2, unhide HB⟩
              case measure => simp [intOf]; omega
        · have hur' : u = r := by omega
          subst hur'
          have o1 := hT.outer (u - 1) (by omega)
          have o2 := hT.cell (r := u - 1) (c := k - 1) (by omega) (by omega)
          rw [hTu (u - 1) (k - 1) (by omega) (by omega), unhide HRES2] at o2
          obtain ⟨u1, hu1⟩ : ∃ u1, u1 = u - 1 := ⟨_, rfl⟩
          obtain ⟨k0, hk0⟩ : ∃ k0, k0 = k - 1 := ⟨_, rfl⟩
          rw [← hu1] at o1 o2
          rw [← hk0] at o2
          have e1 : (u : Int) - 1 = (u1 : Int) := by omega
          have e2 : (k : Int) - 1 = (k0 : Int) := by omega
          have hu1' : u1 < u := by omega
          have hk0' : k0 < k := by omega
          have HBF := hide ((unhide HB4).trans (hB.mono hs4'))
          clear hT hTu hB hu1 hk0
          go_wp2_with fail
          go_ret
          exact ⟨rfl, unhide HBF⟩

end Go.Proofs.YtdaneedflpfeaaaDoor

namespace Go.Proofs.YtdaneedflpfeaaaDoor
set_option maxRecDepth 100000
open Go.RowKit

theorem own_lower {w : World} {B B' e size n : Nat} {v : Value} {xs : List Value} (h : w.ownsRow B e size v n xs) (hB : B' ≤ B) : w.ownsRow B' e size v n xs := by
  refine ⟨h.1, ?_⟩
  rcases h.2 with h0 | ⟨g, cap, cur, r1, hb, rest⟩
  · exact .inl h0
  · exact .inr ⟨g, cap, cur, r1, by omega, rest⟩
/-- What two answers. -/
def TwoR (w : World) (a b : ByteArray) (e : Ending) (w' : World) : Prop := Below w.heap.size w w' ∧ match outT a with
  | .err c _ => e = .returned (.tuple #[.slice none 0 0, .slice none 0 0, .int .i64 c])
  | .ok L => match outT b with
    | .err c _ => ∃ u v, e = .returned (.tuple #[u, v, .int .i64 c])
    | .ok M => ∃ l m u v, L = (nodeR kProgram l).map (toNd 0) ∧ M = (nodeR kProgram m).map (toNd 0) ∧ l.length ≤ 79 ∧ m.length ≤ 79 ∧ (∀ x ∈ l, x.deep ≤ 1000) ∧ (∀ x ∈ m, x.deep ≤ 1000) ∧ e = .returned (.tuple #[u, v, .int .i64 0]) ∧ w'.ownsRow w.heap.size 48 3 u l.length (rwsCells l) ∧ w'.ownsRow w.heap.size 48 3 v m.length (rwsCells m)

set_option maxHeartbeats 1600000 in
theorem two_any (a b : ByteArray) (w : World) (hG : Glob w) (hw2 : 2 ≤ w.heap.size) :
    Calls Tryd.prog 9 #[.string a, .string b] w fun e w' => TwoR w a b e w' := by
  have HP : Hid (∀ s w1, Below w.heap.size w w1 → Calls Tryd.prog 6 #[.string s] w1 fun e w' => ∃ o, Same (outT s) o ∧ PostR w1 o e w') := fun s w1 hb => refParse_any s w1 (hG.below hb hw2) (by have := hb.size; omega)
  clear hG
  unfold TwoR
  cases ha : outT a with
  | err c p =>
    have hc : (c != 0) = true := bne_iff_ne.2 (outT_ne ha).1
    have HA := hide ha
    clear ha
    go_enter Tryd.func9, Tryd.ntmps9
    go_wp2_with fail
    refine (unhide HP a _ (Below.refl _ _)).mono ?_
    rintro e w1 ⟨o, hsm, hpo⟩
    rw [unhide HA] at hsm
    cases o with
    | ok l => exact hsm.elim
    | err c' p' =>
      obtain ⟨rfl, rfl⟩ := hsm
      obtain ⟨hB1, rfl⟩ := hpo
      have HB1 := hide hB1
      clear hB1
      go_wp2_with fail
      go_ret3
      exact ⟨unhide HB1, rfl⟩
  | ok L =>
    have HA := hide ha
    clear ha
    cases hb : outT b with
    | err c p =>
      have hc : (c != 0) = true := bne_iff_ne.2 (outT_ne hb).1
      have HBO := hide hb
      clear hb
      go_enter Tryd.func9, Tryd.ntmps9
      go_wp2_with fail
      refine (unhide HP a _ (Below.refl _ _)).mono ?_
      rintro e w1 ⟨o, hsm, hpo⟩
      rw [unhide HA] at hsm
      cases o with
      | err c' p' => exact hsm.elim
      | ok l =>
        obtain ⟨hB1, v1, rfl, hown1⟩ := hpo
        have HB1 := hide hB1
        clear hB1 hown1 hsm
        go_wp2_with fail
        refine (unhide HP b _ (unhide HB1)).mono ?_
        rintro e w2 ⟨o, hsm, hpo⟩
        rw [unhide HBO] at hsm
        cases o with
        | ok l => exact hsm.elim
        | err c' p' =>
          obtain ⟨rfl, rfl⟩ := hsm
          obtain ⟨hB2, rfl⟩ := hpo
          have HB2 := hide ((unhide HB1).trans (hB2.mono (unhide HB1).size))
          clear hB2
          go_wp2_with fail
          go_ret3
          exact ⟨unhide HB2, _, _, rfl⟩
    | ok M =>
      have HBO := hide hb
      clear hb
      go_enter Tryd.func9, Tryd.ntmps9
      go_wp2_with fail
      refine (unhide HP a _ (Below.refl _ _)).mono ?_
      rintro e w1 ⟨o, hsm, hpo⟩
      rw [unhide HA] at hsm
      cases o with
      | err c' p' => exact hsm.elim
      | ok l =>
        obtain ⟨hB1, v1, rfl, hown1⟩ := hpo
        have HB1 := hide hB1
        have HO1 := hide hown1
        have HS1 := hide hsm
        clear hB1 hown1 hsm
        go_wp2_with fail
        refine (unhide HP b _ (unhide HB1)).mono ?_
        rintro e w2 ⟨o, hsm, hpo⟩
        rw [unhide HBO] at hsm
        cases o with
        | err c' p' => exact hsm.elim
        | ok m =>
          obtain ⟨hB2, v2, rfl, hown2⟩ := hpo
          have HB2 := hide ((unhide HB1).trans (hB2.mono (unhide HB1).size))
          have HO1' := hide (row_below (unhide HO1) (fun j hj => ((unhide HO1).lt j hj).2) hB2)
          have HO2 := hide (own_lower hown2 (unhide HB1).size)
          have HS2 := hide hsm
          clear hB2 hown2 hsm
          go_wp2_with fail
          go_ret3
          obtain ⟨e1, _, _, a3, a4⟩ := unhide HS1
          obtain ⟨e2, _, _, b3, b4⟩ := unhide HS2
          exact ⟨unhide HB2, l, m, v1, v2, e1, e2, a3, b3, fun x hx => (a4 x hx).1, fun x hx => (b4 x hx).1, rfl, unhide HO1', unhide HO2⟩

set_option maxHeartbeats 1600000 in
theorem dists_any (a b : ByteArray) (w : World) (hG : Glob w) (hw2 : 2 ≤ w.heap.size) :
    Calls Tryd.prog 4 #[.string a, .string b] w fun e w' => e = .returned (.bool true) ∧ Below w.heap.size w w' := by
  have HD := hide (dist_any a b w)
  have HT : Hid (∀ w1, Below w.heap.size w w1 → Calls Tryd.prog 9 #[.string a, .string b] w1 fun e w' => TwoR w1 a b e w') := fun w1 hb => two_any a b w1 (hG.below hb hw2) (by have := hb.size; omega)
  clear hG
  have finish : ∀ c : Int, c ≠ 0 → distT a b = (0, c) → (∀ w1 e w', TwoR w1 a b e w' → Below w1.heap.size w1 w' ∧ ∃ u v, e = .returned (.tuple #[u, v, .int .i64 c])) → Calls Tryd.prog 4 #[.string a, .string b] w fun e w' => e = .returned (.bool true) ∧ Below w.heap.size w w' := by
    intro c hc hd htw
    have hc' : (c != 0) = true := bne_iff_ne.2 hc
    rw [hd] at HD
    have HTW := hide htw
    clear hd htw hc
    go_enter Tryd.func4, Tryd.ntmps4
    go_wp2_with fail
    refine (unhide HD).mono ?_
    rintro e w1 ⟨rfl, hB1⟩
    have HB1 := hide hB1
    clear hB1
    go_wp2_with fail
    refine (unhide HT _ (unhide HB1)).mono ?_
    intro e w2 hr
    obtain ⟨hB2, u, v, rfl⟩ := unhide HTW _ _ _ hr
    have HB2 := hide ((unhide HB1).trans (hB2.mono (unhide HB1).size))
    clear hB2 hr
    go_wp2_with fail
    go_ret
    exact ⟨ret_bool (by simp), unhide HB2⟩
  cases ha : outT a with
  | err c p =>
    refine finish c (outT_ne ha).1 (by rw [distT, ha]) ?_
    intro w1 e w' h
    unfold TwoR at h
    rw [ha] at h
    exact ⟨h.1, _, _, h.2⟩
  | ok L =>
    cases hb : outT b with
    | err c p =>
      refine finish c (outT_ne hb).1 (by rw [distT, ha, hb]) ?_
      intro w1 e w' h
      unfold TwoR at h
      rw [ha, hb] at h
      exact h
    | ok M =>
      have hd : distT a b = (dB L M 0 0, 0) := by rw [distT, ha, hb]
      rw [hd] at HD
      have HA := hide ha
      have HBO := hide hb
      clear ha hb hd finish
      go_enter Tryd.func4, Tryd.ntmps4
      go_wp2_with fail
      refine (unhide HD).mono ?_
      rintro e w1 ⟨rfl, hB1⟩
      have HB1 := hide hB1
      clear hB1
      go_wp2_with fail
      refine (unhide HT _ (unhide HB1)).mono ?_
      intro e w2 hr
      unfold TwoR at hr
      rw [unhide HA, unhide HBO] at hr
      obtain ⟨hB2, l, m, u, v, rfl, rfl, hl, hm, hdl, hdm, rfl, ho1, ho2⟩ := hr
      have HB2 := hide ((unhide HB1).trans (hB2.mono (unhide HB1).size))
      have HR := hide (refDist_any l m u v _ _ w2 (by omega) (by omega) (fun x hx => by have := hdl x hx; omega) (fun x hx => by have := hdm x hx; omega) ho1 ho2)
      have hE := dB_rows l m
      rw [hE]
      clear hB2 ho1 ho2 hdl hdm hE HD HT HA HBO
      generalize (dlR l m : Int) = d at *
      go_wp2_with fail
      refine (unhide HR).mono ?_
      rintro e w3 ⟨rfl, hB3⟩
      have HB3 := hide ((unhide HB2).trans (hB3.mono (unhide HB2).size))
      clear hB3
      go_wp2_with fail
      go_ret
      exact ⟨ret_bool (by simp), unhide HB3⟩

end Go.Proofs.YtdaneedflpfeaaaDoor

namespace Go.Proofs.YtdaneedflpfeaaaDoor
set_option maxRecDepth 100000
open Go.ChangeShapes Go.WideShapes Go.ChangeAt Go.RowKit
open Go.ChangeMaps (open_string shut_string)

set_option maxRecDepth 100000 in
theorem dists_lifted (os : Os) (started : os.Started) (H : Type) (enc : TypeId × Value → H) :
    ReturnsInHanded {} Tryd.checked os 4 .any (fun w args => (Rows.distsSpec.pre enc Tryd.prog Tryd.f4 [] false w args ∧ laidMetH Tryd.prog laid2 w) ∧ sizedMet enc Tryd.prog Tryd.f4 (OpenSpec.ofChange Rows.distsSpec) false w args)
      (Rows.distsSpec.post enc Tryd.prog Tryd.f4 false true false false) := by
  refine returnsInHanded_of_change_and (C := Tryd.checked) (X := fun w _ => laidMetH Tryd.prog laid2 w) (fun _ _ _ hh h => h.of_heap hh) own started (by kernel_rfl) Tryd.func4
    (ChangeSpec.witness_shaped (enc := enc) (C := Tryd.checked) (os := os) (X := fun w _ => laidMetH Tryd.prog laid2 w) false (World.doorLaid Tryd.prog 400 os) #[.string ByteArray.empty, .string ByteArray.empty] 8 rfl (World.shaped_of_RefB (by kernel_rfl) (by kernel_rfl)) (by kernel_rfl) (by kernel_rfl) (by kernel_rfl) (door_met os _)) ?_
  intro W base args ds gs before hval0 hW _ _ hL _
  have hval : ∀ (j : Nat) t v, Tryd.f4.params[j]? = some t → args[j]? = some v → Value.okWide Tryd.prog W .any base t v := hval0
  have hW' := hW
  obtain ⟨p, q, hA0, hV, rfl, hfz, hnd⟩ := hW
  have hA : DataW.TrodAll enc Tryd.prog W 0 (fun _ => true) true Tryd.f4.params.toList args.toList ds p := hA0
  rw [Tryd.params4] at hA hval
  obtain ⟨v0, vs0, d0, ds0, p0, q0, hargs, rfl, rfl, h0, r0⟩ := trodAll_cons hA
  obtain ⟨v1, vs1, d1, ds1, p1, q1, hargs1, rfl, rfl, h1, r1⟩ := trodAll_cons r0
  obtain ⟨rfl, rfl, rfl⟩ := trodAll_nil r1
  obtain rfl : args = #[v0, v1] := by cases args; simp_all
  obtain ⟨rfl, rfl⟩ := trodVars_none hV
  obtain ⟨a0, rfl, rfl, rfl, w0⟩ := open_string Tryd.underlying9 (hval 0 9 v0 rfl rfl) h0
  obtain ⟨a1, rfl, rfl, rfl, w1⟩ := open_string Tryd.underlying9 (hval 1 9 v1 rfl rfl) h1
  obtain ⟨hG, hw2⟩ := glob_of hL
  clear hA0 hval0
  simp only [List.append_nil] at hW'
  refine (dists_any a0 a1 W hG hw2).mono fun e W' ⟨he, hg⟩ => ?_
  subst he
  exact ⟨_, rfl, _, _, _, [], [], [], hW', (trodAll_cons_mk (shut_bool Tryd.underlying4 _) trodAll_mk0), (trodAll_cons_mk (shut_string Tryd.underlying9 w0) (trodAll_cons_mk (shut_string Tryd.underlying9 w1) trodAll_mk0)), rfl, hg.frame _, fun h => by cases h⟩

theorem dists_row : Rows.DistsSaid :=
  OpenClaim.holds_of_wide 4 Tryd.f4 rfl rfl rfl rfl rfl rfl rfl ⟨rfl, rfl, rfl, rfl, rfl⟩ rfl rfl rfl rfl rfl (by kernel_rfl) Tryd.func4 (by kernel_rfl)
    (of_decide_eq_true (by kernel_rfl)) (by unfold Func.isWrapper; first | (rw [if_pos (by decide +kernel)]; kernel_rfl) | (rw [if_neg (by decide +kernel)]; exact ⟨rfl, rfl⟩))
    (fun os started H enc _ => dists_lifted os started H enc)

theorem dists_proved : Rows.DistsCardSaid :=
  Claim7.holds_tied_plain_at .later [] [.data, .data] true Rows.distsCard.stood.harness false
    dists_row (fun _ h => by cases h) (by kernel_rfl) (fun _ h => by cases h) dists_row_tie rfl ⟨rfl, rfl⟩ (by kernel_rfl) rfl
    (fun f fn hf hfn => by
      obtain rfl : f = 4 := Option.some.inj ((show Tryd.prog.funcNamed "treediff/treedifflaw.Dists" = some 4 by kernel_rfl).symm.trans hf) |>.symm
      obtain rfl : fn = Tryd.f4 := (Option.some.inj (Tryd.func4.symm.trans hfn)).symm
      exact ⟨by kernel_rfl, fun j t ht => by
        rw [Tryd.params4] at ht
        have hm : t ∈ [9] := by have := Array.mem_of_getElem? ht; simpa using this
        have hall : ([9].all fun u => !Tryd.prog.wantsStandIn u) = true := by kernel_rfl
        exact (show Tryd.prog.wantsStandIn t = false by simpa using List.all_eq_true.1 hall t hm)⟩)
    (by kernel_rfl)

#print axioms dists_proved

end Go.Proofs.YtdaneedflpfeaaaDoor
