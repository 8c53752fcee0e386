import Derived.Test.YtdaneedflpfeaaaDoorRows
import Derived.Test.YtdaneedflpfeaaaDoorRefToks
import Derived.Test.YtdaneedflpfeaaaDoorStr
import Derived.ProofKit
import Derived.LaidMore
import Derived.Lib.LaidTab
import Derived.Test.YtdaneedflpfeaaaDoorRefParse
import Derived.Test.YtdaneedflpfeaaaDoorOutShow
import Derived.Test.YtdaneedflpfeaaaDoorRefShow
import Derived.Test.YtdaneedflpfeaaaDoorCards
import Derived.Test.YtdaneedflpfeaaaDoorTie
import Derived.OpenShut
import Derived.ShutString
import Derived.Stop.Joined
import Derived.SevenTiedAt
namespace Go.Proofs.YtdaneedflpfeaaaDoor
set_option maxRecDepth 100000
open Go.ChangeShapes Go.WideShapes Go.ChangeAt Go.RowKit

theorem own : ownKnob Tryd.prog.godebug = none := by kernel_rfl
theorem gKeys : Tryd.prog.globalNamed "treediff/treediffref.keywords" = some 0 := by kernel_rfl
theorem gSigns : Tryd.prog.globalNamed "treediff/treediffref.signs" = some 1 := by kernel_rfl
theorem tKeys : (Tryd.prog.globals[0]?).map (·.type) = some 75 := by kernel_rfl
theorem tSigns : (Tryd.prog.globals[1]?).map (·.type) = some 76 := by kernel_rfl
/-- The two tables, as the rows list them. -/
abbrev laid2 : List (String × DataW Unit) := [("treediff/treediffref.signs", Rows.laid_treediff_treediffref_signs), ("treediff/treediffref.keywords", Rows.laid_treediff_treediffref_keywords)]

/-- An array of texts that reads as a table holds the table's texts, cell for cell. -/
theorem cells_of_strs {H : Type} {enc : TypeId × Value → H} {P : Program} {w : World} {base : Nat} {sp : Nat → Bool} {held : Bool} {fuel : Nat} {t e : TypeId} {n : Nat} {cs : List Value} {ss : List (List UInt8)} {p : List MemPlace}
    (ht : P.underlying t = some (.array n e)) (he : P.underlying e = some .string) (hce : P.cellsOf e = 1) (hct : P.cellsOf t = n)
    (h : DataW.trod enc P w base sp held fuel t cs = some (.agg (ss.map fun s => .lit (.string s)), p)) : cs = ss.map fun s => Value.string (mk s) := by
  cases fuel with
  | zero => simp [DataW.trod] at h
  | succ fuel =>
    simp only [DataW.trod, ht, hce, hct, Nat.mul_one] at h
    split at h
    · rename_i hl
      obtain ⟨xs, hm, hx⟩ := Option.map_eq_some_iff.1 h
      have hxs : xs.map (·.1) = ss.map fun s => (DataW.lit (.string s) : DataW H) := by
        have := congrArg Prod.fst hx
        simpa using this
      have hxl : xs.length = n := by simpa using Go.Lib.mapM_length hm
      have hzl : ss.length = n := by
        have := congrArg List.length hxs
        simp at this
        omega
      apply List.ext_getElem?
      intro i
      by_cases hi : i < n
      · obtain ⟨b, hb, hf⟩ := Go.Lib.mapM_at hm i i (by simp [hi])
        obtain ⟨z, hc, rfl, _⟩ := DataW.trod_string he hf
        have h1 : cs[i]? = some (.string z) := by
          have := congrArg (·[0]?) hc
          simpa [List.getElem?_take, List.getElem?_drop] using this
        have h2 : (xs.map (·.1))[i]? = some (DataW.lit (.string z.data.toList) : DataW H) := by simp [hb]
        rw [hxs] at h2
        simp only [List.getElem?_map, Option.map_eq_some_iff, DataW.lit.injEq, Lit.string.injEq] at h2
        obtain ⟨z', hz', e⟩ := h2
        simp only [h1, List.getElem?_map, hz', Option.map_some, e]
        rw [mk_data]
      · rw [List.getElem?_eq_none (by omega), List.getElem?_eq_none (by simp; omega)]
    · cases h
theorem block_of_var {P : Program} {w : World} {n : String} {g : Nat} {cs : Array Value} (hg : P.globalNamed n = some g) (h : w.var? P n = some cs) : ∃ T fr, w.heap[g]? = some (.cells cs T fr) := by
  simp only [World.var?, hg, Option.bind_some] at h
  split at h
  · rename_i cs' T fr he
    cases h
    exact ⟨T, fr, he⟩
  · cases h
/-- What the listed variables give the walks. -/
theorem glob_of {W : World} (h : laidMetH Tryd.prog laid2 W) : Glob W ∧ 2 ≤ W.heap.size := by
  rw [MakeChecks.laidMetH_plain _ _ _ (by kernel_rfl)] at h
  obtain ⟨ps, ⟨g0, t0, cs0, f0, p0, q0, hg0, ht0, hv0, hd0, ⟨g1, t1, cs1, f1, p1, q1, hg1, ht1, hv1, hd1, _, _⟩, _⟩, _⟩ := h
  obtain rfl := Option.some.inj (gSigns.symm.trans hg0)
  obtain rfl := Option.some.inj (gKeys.symm.trans hg1)
  obtain rfl := Option.some.inj (tSigns.symm.trans ht0)
  obtain rfl := Option.some.inj (tKeys.symm.trans ht1)
  have c9 : Tryd.prog.cellsOf 9 = 1 := by kernel_rfl
  have c7 : Tryd.prog.cellsOf 75 = 7 := by kernel_rfl
  have c18 : Tryd.prog.cellsOf 76 = 18 := by kernel_rfl
  have e0 := cells_of_strs (ss := sgs.map (·.data.toList)) Tryd.underlying76 Tryd.underlying9 c9 c18 hd0
  have e1 := cells_of_strs (ss := kws.map (·.data.toList)) Tryd.underlying75 Tryd.underlying9 c9 c7 hd1
  have s0 : cs0 = sgV := Array.toList_inj.1 (e0.trans rfl)
  have s1 : cs1 = kwV := Array.toList_inj.1 (e1.trans rfl)
  subst s0 s1
  have b0 := block_of_var hg0 hv0
  have b1 := block_of_var hg1 hv1
  refine ⟨⟨b1, b0⟩, ?_⟩
  obtain ⟨T, fr, hb⟩ := b0
  rcases Nat.lt_or_ge 1 W.heap.size with hlt | hge
  · exact hlt
  · rw [Array.getElem?_eq_none (by omega)] at hb; cases hb
/-- The door's own heap meets the condition. -/
theorem door_met (os : Os) (args : Array Value) : laidMetH Tryd.prog laid2 ((World.doorLaid Tryd.prog 400 os).forCall (fun _ _ => 0) ⟨#[], args, []⟩).memory :=
  laidMetH_of_parts3 (fuel := 8) (laidMet_of_run' 8 (by kernel_rfl) (by kernel_rfl)) (by kernel_rfl) (by kernel_rfl)

end Go.Proofs.YtdaneedflpfeaaaDoor

namespace Go.Proofs.YtdaneedflpfeaaaDoor
set_option maxRecDepth 100000
open Go.RowKit

set_option maxHeartbeats 1600000 in
theorem shows_any (s : ByteArray) (w : World) (hG : Glob w) (hw2 : 2 ≤ w.heap.size) :
    Calls Tryd.prog 3 #[.string s] w fun e w' => e = .returned (.bool true) ∧ Below w.heap.size w w' := by
  have HS := hide (show_any s w)
  have HP : Hid (∀ w1, Below w.heap.size w w1 → Calls Tryd.prog 6 #[.string s] w1 fun e w' => ∃ o, Same (outT s) o ∧ PostR w1 o e w') := fun w1 hb => refParse_any s w1 (hG.below hb hw2) (by have := hb.size; omega)
  clear hG
  cases ho : outT s with
  | err c p =>
    have HST : Hid (showT s = .returned (.tuple #[.string ⟨#[]⟩, .int .i64 c, .int .i64 p])) := by show showT s = _; simp [showT, ho]
    have hc : (c != 0) = true := bne_iff_ne.2 (outT_ne ho).1
    have HO := hide ho
    clear ho
    go_enter Tryd.func3, Tryd.ntmps3
    go_wp2_with fail
    refine (unhide HS).mono ?_
    rintro e w1 ⟨he, hB1⟩
    have he' := he.trans (unhide HST)
    subst he'
    have HB1 := hide hB1
    clear he hB1 HS
    go_wp2_with fail
    refine (unhide HP _ (unhide HB1)).mono ?_
    rintro e w2 ⟨o, hsm, hpo⟩
    rw [unhide HO] at hsm
    cases o with
    | ok l => exact hsm.elim
    | err c' p' =>
      obtain ⟨rfl, rfl⟩ := hsm
      obtain ⟨hB2, rfl⟩ := hpo
      have HB2 : Hid (Below w.heap.size w w2) := (unhide HB1).trans (hB2.mono (unhide HB1).size)
      clear hB2
      go_wp2_with fail
      go_ret
      exact ⟨ret_bool (by simp), unhide HB2⟩
  | ok nodes =>
    have HST : Hid (showT s = .returned (.tuple #[.string (mk (writtenL nodes)), .int .i64 0, .int .i64 0])) := by show showT s = _; simp [showT, ho]
    have HO := hide ho
    clear ho
    go_enter Tryd.func3, Tryd.ntmps3
    go_wp2_with fail
    refine (unhide HS).mono ?_
    rintro e w1 ⟨he, hB1⟩
    have he' := he.trans (unhide HST)
    subst he'
    have HB1 := hide hB1
    clear he hB1 HS HST
    go_wp2_with fail
    refine (unhide HP _ (unhide HB1)).mono ?_
    rintro e w2 ⟨o, hsm, hpo⟩
    rw [unhide HO] at hsm
    cases o with
    | err c' p' => exact hsm.elim
    | ok l =>
      obtain ⟨rfl, hrc, hl1, hl2, hx⟩ := hsm
      obtain ⟨hB2, v, rfl, hown⟩ := hpo
      rcases row_form hown with ⟨_, h0⟩ | ⟨g, cap, rfl, hg⟩
      · omega
      have HB2 : Hid (Below w.heap.size w w2) := (unhide HB1).trans (hB2.mono (unhide HB1).size)
      have HSH : Hid (Calls Tryd.prog 7 #[.slice (some ⟨g, 0, none⟩) l.length cap] w2 fun e w' => e = .returned (.string (mk (writtenL ((nodeR kProgram l).map (toNd 0))))) ∧ Below w2.heap.size w2 w') := refShow_any l _ g cap w2 (by omega) hx hrc hg hown
      clear hB2 hown hx hrc HO HP
      generalize mk (writtenL ((nodeR kProgram l).map (toNd 0))) = out at *
      go_wp2_with fail
      refine (unhide HSH).mono ?_
      rintro e w3 ⟨rfl, hB3⟩
      have HB3 : Hid (Below w.heap.size w w3) := (unhide HB2).trans (hB3.mono (unhide HB2).size)
      clear hB3
      go_wp2_with fail
      go_ret
      exact ⟨ret_bool (by simp), unhide HB3⟩

end Go.Proofs.YtdaneedflpfeaaaDoor

namespace Go.Proofs.YtdaneedflpfeaaaDoor
set_option maxRecDepth 100000
open Go.ChangeShapes Go.WideShapes Go.ChangeAt Go.RowKit
open Go.ChangeMaps (open_string shut_string)

set_option maxRecDepth 100000 in
theorem shows_lifted (os : Os) (started : os.Started) (H : Type) (enc : TypeId × Value → H) :
    ReturnsInHanded {} Tryd.checked os 3 .any (fun w args => (Rows.showsSpec.pre enc Tryd.prog Tryd.f3 [] false w args ∧ laidMetH Tryd.prog laid2 w) ∧ sizedMet enc Tryd.prog Tryd.f3 (OpenSpec.ofChange Rows.showsSpec) false w args)
      (Rows.showsSpec.post enc Tryd.prog Tryd.f3 false true false false) := by
  refine returnsInHanded_of_change_and (C := Tryd.checked) (X := fun w _ => laidMetH Tryd.prog laid2 w) (fun _ _ _ hh h => h.of_heap hh) own started (by kernel_rfl) Tryd.func3
    (ChangeSpec.witness_shaped (enc := enc) (C := Tryd.checked) (os := os) (X := fun w _ => laidMetH Tryd.prog laid2 w) false (World.doorLaid Tryd.prog 400 os) #[.string ByteArray.empty] 8 rfl (World.shaped_of_RefB (by kernel_rfl) (by kernel_rfl)) (by kernel_rfl) (by kernel_rfl) (by kernel_rfl) (door_met os _)) ?_
  intro W base args ds gs before hval0 hW _ _ hL _
  have hval : ∀ (j : Nat) t v, Tryd.f3.params[j]? = some t → args[j]? = some v → Value.okWide Tryd.prog W .any base t v := hval0
  have hW' := hW
  obtain ⟨p, q, hA0, hV, rfl, hfz, hnd⟩ := hW
  have hA : DataW.TrodAll enc Tryd.prog W 0 (fun _ => true) true Tryd.f3.params.toList args.toList ds p := hA0
  rw [Tryd.params3] at hA hval
  obtain ⟨v0, vs0, d0, ds0, p0, q0, hargs, rfl, rfl, h0, r0⟩ := trodAll_cons hA
  obtain ⟨rfl, rfl, rfl⟩ := trodAll_nil r0
  obtain rfl : args = #[v0] := by cases args; simp_all
  obtain ⟨rfl, rfl⟩ := trodVars_none hV
  obtain ⟨a0, rfl, rfl, rfl, w0⟩ := open_string Tryd.underlying9 (hval 0 9 v0 rfl rfl) h0
  obtain ⟨hG, hw2⟩ := glob_of hL
  clear hA0 hval0
  simp only [List.append_nil] at hW'
  refine (shows_any a0 W hG hw2).mono fun e W' ⟨he, hg⟩ => ?_
  subst he
  exact ⟨_, rfl, _, _, _, [], [], [], hW', (trodAll_cons_mk (shut_bool Tryd.underlying4 _) trodAll_mk0), (trodAll_cons_mk (shut_string Tryd.underlying9 w0) trodAll_mk0), rfl, hg.frame _, fun h => by cases h⟩

theorem shows_row : Rows.ShowsSaid :=
  OpenClaim.holds_of_wide 3 Tryd.f3 rfl rfl rfl rfl rfl rfl rfl ⟨rfl, rfl, rfl, rfl, rfl⟩ rfl rfl rfl rfl rfl (by kernel_rfl) Tryd.func3 (by kernel_rfl)
    (of_decide_eq_true (by kernel_rfl)) (by unfold Func.isWrapper; first | (rw [if_pos (by decide +kernel)]; kernel_rfl) | (rw [if_neg (by decide +kernel)]; exact ⟨rfl, rfl⟩))
    (fun os started H enc _ => shows_lifted os started H enc)

theorem shows_proved : Rows.ShowsCardSaid :=
  Claim7.holds_tied_plain_at .later [] [.data, .data] true Rows.showsCard.stood.harness false
    shows_row (fun _ h => by cases h) (by kernel_rfl) (fun _ h => by cases h) shows_row_tie rfl ⟨rfl, rfl⟩ (by kernel_rfl) rfl
    (fun f fn hf hfn => by
      obtain rfl : f = 3 := Option.some.inj ((show Tryd.prog.funcNamed "treediff/treedifflaw.Shows" = some 3 by kernel_rfl).symm.trans hf) |>.symm
      obtain rfl : fn = Tryd.f3 := (Option.some.inj (Tryd.func3.symm.trans hfn)).symm
      exact ⟨by kernel_rfl, fun j t ht => by
        rw [Tryd.params3] at ht
        have hm : t ∈ [9] := by simpa using Array.mem_of_getElem? ht
        have hall : ([9].all fun u => !Tryd.prog.wantsStandIn u) = true := by kernel_rfl
        exact (show Tryd.prog.wantsStandIn t = false by simpa using List.all_eq_true.1 hall t hm)⟩)
    (by kernel_rfl)

#print axioms shows_proved

end Go.Proofs.YtdaneedflpfeaaaDoor
