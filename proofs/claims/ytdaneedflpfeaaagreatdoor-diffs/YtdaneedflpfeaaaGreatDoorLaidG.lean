import Derived.Test.YtdaneedflpfeaaaGreatDoorRows
import Derived.Test.YtdaneedflpfeaaaGreatDoorRefToks
import Derived.Test.YtdaneedflpfeaaaGreatDoorStr
import Derived.ProofKit
import Derived.LaidMore
import Derived.Lib.LaidTab
namespace Go.Proofs.YtdaneedflpfeaaaGreatDoor
set_option maxRecDepth 100000
open Go.ChangeShapes Go.WideShapes Go.ChangeAt Go.RowKit

theorem own : ownKnob Tryz.prog.godebug = none := by kernel_rfl
theorem gKeys : Tryz.prog.globalNamed "treediff/treediffref.keywords" = some 0 := by kernel_rfl
theorem gSigns : Tryz.prog.globalNamed "treediff/treediffref.signs" = some 1 := by kernel_rfl
theorem tKeys : (Tryz.prog.globals[0]?).map (·.type) = some 114 := by kernel_rfl
theorem tSigns : (Tryz.prog.globals[1]?).map (·.type) = some 115 := by kernel_rfl
/-- The two tables, as the rows list them. -/
abbrev laid2 : List (String × DataW Unit) := [("treediff/treediffref.signs", Rows.laid_treediff_treediffref_signs), ("treediff/treediffref.keywords", Rows.laid_treediff_treediffref_keywords)]

/-- An array of texts that reads as a table holds the table's texts, cell for cell. -/
theorem cells_of_strs {H : Type} {enc : TypeId × Value → H} {P : Program} {w : World} {base : Nat} {sp : Nat → Bool} {held : Bool} {fuel : Nat} {t e : TypeId} {n : Nat} {cs : List Value} {ss : List (List UInt8)} {p : List MemPlace}
    (ht : P.underlying t = some (.array n e)) (he : P.underlying e = some .string) (hce : P.cellsOf e = 1) (hct : P.cellsOf t = n)
    (h : DataW.trod enc P w base sp held fuel t cs = some (.agg (ss.map fun s => .lit (.string s)), p)) : cs = ss.map fun s => Value.string (mk s) := by
  cases fuel with
  | zero => simp [DataW.trod] at h
  | succ fuel =>
    simp only [DataW.trod, ht, hce, hct, Nat.mul_one] at h
    split at h
    · rename_i hl
      obtain ⟨xs, hm, hx⟩ := Option.map_eq_some_iff.1 h
      have hxs : xs.map (·.1) = ss.map fun s => (DataW.lit (.string s) : DataW H) := by
        have := congrArg Prod.fst hx
        simpa using this
      have hxl : xs.length = n := by simpa using Go.Lib.mapM_length hm
      have hzl : ss.length = n := by
        have := congrArg List.length hxs
        simp at this
        omega
      apply List.ext_getElem?
      intro i
      by_cases hi : i < n
      · obtain ⟨b, hb, hf⟩ := Go.Lib.mapM_at hm i i (by simp [hi])
        obtain ⟨z, hc, rfl, _⟩ := DataW.trod_string he hf
        have h1 : cs[i]? = some (.string z) := by
          have := congrArg (·[0]?) hc
          simpa [List.getElem?_take, List.getElem?_drop] using this
        have h2 : (xs.map (·.1))[i]? = some (DataW.lit (.string z.data.toList) : DataW H) := by simp [hb]
        rw [hxs] at h2
        simp only [List.getElem?_map, Option.map_eq_some_iff, DataW.lit.injEq, Lit.string.injEq] at h2
        obtain ⟨z', hz', e⟩ := h2
        simp only [h1, List.getElem?_map, hz', Option.map_some, e]
        rw [mk_data]
      · rw [List.getElem?_eq_none (by omega), List.getElem?_eq_none (by simp; omega)]
    · cases h
theorem block_of_var {P : Program} {w : World} {n : String} {g : Nat} {cs : Array Value} (hg : P.globalNamed n = some g) (h : w.var? P n = some cs) : ∃ T fr, w.heap[g]? = some (.cells cs T fr) := by
  simp only [World.var?, hg, Option.bind_some] at h
  split at h
  · rename_i cs' T fr he
    cases h
    exact ⟨T, fr, he⟩
  · cases h
/-- What the listed variables give the walks. -/
theorem glob_of {W : World} (h : laidMetH Tryz.prog laid2 W) : Glob W ∧ 2 ≤ W.heap.size := by
  rw [MakeChecks.laidMetH_plain _ _ _ (by kernel_rfl)] at h
  obtain ⟨ps, ⟨g0, t0, cs0, f0, p0, q0, hg0, ht0, hv0, hd0, ⟨g1, t1, cs1, f1, p1, q1, hg1, ht1, hv1, hd1, _, _⟩, _⟩, _⟩ := h
  obtain rfl := Option.some.inj (gSigns.symm.trans hg0)
  obtain rfl := Option.some.inj (gKeys.symm.trans hg1)
  obtain rfl := Option.some.inj (tSigns.symm.trans ht0)
  obtain rfl := Option.some.inj (tKeys.symm.trans ht1)
  have c9 : Tryz.prog.cellsOf 9 = 1 := by kernel_rfl
  have c7 : Tryz.prog.cellsOf 114 = 7 := by kernel_rfl
  have c18 : Tryz.prog.cellsOf 115 = 18 := by kernel_rfl
  have e0 := cells_of_strs (ss := sgs.map (·.data.toList)) Tryz.underlying115 Tryz.underlying9 c9 c18 hd0
  have e1 := cells_of_strs (ss := kws.map (·.data.toList)) Tryz.underlying114 Tryz.underlying9 c9 c7 hd1
  have s0 : cs0 = sgV := Array.toList_inj.1 (e0.trans rfl)
  have s1 : cs1 = kwV := Array.toList_inj.1 (e1.trans rfl)
  subst s0 s1
  have b0 := block_of_var hg0 hv0
  have b1 := block_of_var hg1 hv1
  refine ⟨⟨b1, b0⟩, ?_⟩
  obtain ⟨T, fr, hb⟩ := b0
  rcases Nat.lt_or_ge 1 W.heap.size with hlt | hge
  · exact hlt
  · rw [Array.getElem?_eq_none (by omega)] at hb; cases hb
/-- The door's own heap meets the condition. -/
theorem door_met (os : Os) (args : Array Value) : laidMetH Tryz.prog laid2 ((World.doorLaid Tryz.prog 400 os).forCall (fun _ _ => 0) ⟨#[], args, []⟩).memory :=
  laidMetH_of_parts3 (fuel := 8) (laidMet_of_run' 8 (by kernel_rfl) (by kernel_rfl)) (by kernel_rfl) (by kernel_rfl)

end Go.Proofs.YtdaneedflpfeaaaGreatDoor

namespace Go.Proofs.YtdaneedflpfeaaaGreatDoor
set_option maxRecDepth 100000
open Go.ChangeShapes Go.WideShapes Go.ChangeAt Go.RowKit

/-- The tables, as the rows that reach Itoa list them. -/
abbrev laid5 : List (String × DataW Unit) := [("math/bits.deBruijn32tab", Rows.laid_math_bits_deBruijn32tab), ("math/bits.deBruijn64tab", Rows.laid_math_bits_deBruijn64tab), ("internal/strconv.uint64pow10", Rows.laid_internal_strconv_uint64pow10), ("treediff/treediffref.signs", Rows.laid_treediff_treediffref_signs), ("treediff/treediffref.keywords", Rows.laid_treediff_treediffref_keywords)]
theorem glob_of5 {W : World} (h : laidMetH Tryz.prog laid5 W) : Glob W ∧ 2 ≤ W.heap.size := by
  rw [MakeChecks.laidMetH_plain _ _ _ (by kernel_rfl)] at h
  obtain ⟨ps, ⟨_, _, _, _, _, _, _, _, _, _, ⟨_, _, _, _, _, _, _, _, _, _, ⟨_, _, _, _, _, _, _, _, _, _, ⟨g0, t0, cs0, f0, p0, q0, hg0, ht0, hv0, hd0, ⟨g1, t1, cs1, f1, p1, q1, hg1, ht1, hv1, hd1, _, _⟩, _⟩, _⟩, _⟩, _⟩, _⟩ := h
  obtain rfl := Option.some.inj (gSigns.symm.trans hg0)
  obtain rfl := Option.some.inj (gKeys.symm.trans hg1)
  obtain rfl := Option.some.inj (tSigns.symm.trans ht0)
  obtain rfl := Option.some.inj (tKeys.symm.trans ht1)
  have c9 : Tryz.prog.cellsOf 9 = 1 := by kernel_rfl
  have c7 : Tryz.prog.cellsOf 114 = 7 := by kernel_rfl
  have c18 : Tryz.prog.cellsOf 115 = 18 := by kernel_rfl
  have e0 := cells_of_strs (ss := sgs.map (·.data.toList)) Tryz.underlying115 Tryz.underlying9 c9 c18 hd0
  have e1 := cells_of_strs (ss := kws.map (·.data.toList)) Tryz.underlying114 Tryz.underlying9 c9 c7 hd1
  have s0 : cs0 = sgV := Array.toList_inj.1 (e0.trans rfl)
  have s1 : cs1 = kwV := Array.toList_inj.1 (e1.trans rfl)
  subst s0 s1
  have b0 := block_of_var hg0 hv0
  have b1 := block_of_var hg1 hv1
  refine ⟨⟨b1, b0⟩, ?_⟩
  obtain ⟨T, fr, hb⟩ := b0
  rcases Nat.lt_or_ge 1 W.heap.size with hlt | hge
  · exact hlt
  · rw [Array.getElem?_eq_none (by omega)] at hb; cases hb
theorem door_met5 (os : Os) (args : Array Value) : laidMetH Tryz.prog laid5 ((World.doorLaid Tryz.prog 400 os).forCall (fun _ _ => 0) ⟨#[], args, []⟩).memory :=
  laidMetH_of_parts3 (fuel := 8) (laidMet_of_run' 8 (by kernel_rfl) (by kernel_rfl)) (by kernel_rfl) (by kernel_rfl)

end Go.Proofs.YtdaneedflpfeaaaGreatDoor
