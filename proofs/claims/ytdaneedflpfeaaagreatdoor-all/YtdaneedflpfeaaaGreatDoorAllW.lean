import Derived.Test.YtdaneedflpfeaaaGreatDoorRefParse
import Derived.Test.YtdaneedflpfeaaaGreatDoorOutShow
import Derived.Test.YtdaneedflpfeaaaGreatDoorRefShow
import Derived.Test.YtdaneedflpfeaaaGreatDoorDifL
import Derived.Test.YtdaneedflpfeaaaGreatDoorPatY
namespace Go.Proofs.YtdaneedflpfeaaaGreatDoor
set_option maxRecDepth 100000
open Go.RowKit

set_option maxHeartbeats 1600000 in
theorem shows_any (s : ByteArray) (w : World) (hG : Glob w) (hw2 : 2 ≤ w.heap.size) :
    Calls Tryz.prog 13 #[.string s] w fun e w' => e = .returned (.bool true) ∧ Below w.heap.size w w' := by
  have HS := hide (show_any s w)
  have HP : Hid (∀ w1, Below w.heap.size w w1 → Calls Tryz.prog 21 #[.string s] w1 fun e w' => ∃ o, Same (outT s) o ∧ PostR w1 o e w') := fun w1 hb => refParse_any s w1 (hG.below hb hw2) (by have := hb.size; omega)
  clear hG
  cases ho : outT s with
  | err c p =>
    have HST : Hid (showT s = .returned (.tuple #[.string ⟨#[]⟩, .int .i64 c, .int .i64 p])) := by show showT s = _; simp [showT, ho]
    have hc : (c != 0) = true := bne_iff_ne.2 (outT_ne ho).1
    have HO := hide ho
    clear ho
    go_enter Tryz.func13, Tryz.ntmps13
    go_wp2_with fail
    refine (unhide HS).mono ?_
    rintro e w1 ⟨he, hB1⟩
    have he' := he.trans (unhide HST)
    subst he'
    have HB1 := hide hB1
    clear he hB1 HS
    go_wp2_with fail
    refine (unhide HP _ (unhide HB1)).mono ?_
    rintro e w2 ⟨o, hsm, hpo⟩
    rw [unhide HO] at hsm
    cases o with
    | ok l => exact hsm.elim
    | err c' p' =>
      obtain ⟨rfl, rfl⟩ := hsm
      obtain ⟨hB2, rfl⟩ := hpo
      have HB2 : Hid (Below w.heap.size w w2) := (unhide HB1).trans (hB2.mono (unhide HB1).size)
      clear hB2
      go_wp2_with fail
      go_ret
      exact ⟨ret_bool (by simp), unhide HB2⟩
  | ok nodes =>
    have HST : Hid (showT s = .returned (.tuple #[.string (mk (writtenL nodes)), .int .i64 0, .int .i64 0])) := by show showT s = _; simp [showT, ho]
    have HO := hide ho
    clear ho
    go_enter Tryz.func13, Tryz.ntmps13
    go_wp2_with fail
    refine (unhide HS).mono ?_
    rintro e w1 ⟨he, hB1⟩
    have he' := he.trans (unhide HST)
    subst he'
    have HB1 := hide hB1
    clear he hB1 HS HST
    go_wp2_with fail
    refine (unhide HP _ (unhide HB1)).mono ?_
    rintro e w2 ⟨o, hsm, hpo⟩
    rw [unhide HO] at hsm
    cases o with
    | err c' p' => exact hsm.elim
    | ok l =>
      obtain ⟨rfl, hrc, hl1, hl2, hx⟩ := hsm
      obtain ⟨hB2, v, rfl, hown⟩ := hpo
      rcases row_form hown with ⟨_, h0⟩ | ⟨g, cap, rfl, hg⟩
      · omega
      have HB2 : Hid (Below w.heap.size w w2) := (unhide HB1).trans (hB2.mono (unhide HB1).size)
      have HSH : Hid (Calls Tryz.prog 33 #[.slice (some ⟨g, 0, none⟩) l.length cap] w2 fun e w' => e = .returned (.string (mk (writtenL ((nodeR kProgram l).map (toNd 0))))) ∧ Below w2.heap.size w2 w') := refShow_any l _ g cap w2 (by omega) hx hrc hg hown
      clear hB2 hown hx hrc HO HP
      generalize mk (writtenL ((nodeR kProgram l).map (toNd 0))) = out at *
      go_wp2_with fail
      refine (unhide HSH).mono ?_
      rintro e w3 ⟨rfl, hB3⟩
      have HB3 : Hid (Below w.heap.size w w3) := (unhide HB2).trans (hB3.mono (unhide HB2).size)
      clear hB3
      go_wp2_with fail
      go_ret
      exact ⟨ret_bool (by simp), unhide HB3⟩

end Go.Proofs.YtdaneedflpfeaaaGreatDoor

namespace Go.Proofs.YtdaneedflpfeaaaGreatDoor
set_option maxRecDepth 100000
open Go.RowKit

/-- A slice of texts in memory. -/
def StrA (w : World) (p : Option Addr) (l : List ByteArray) : Prop := ∀ j x, l[j]? = some x → ∃ b off, p = some ⟨b, off, none⟩ ∧ b < w.heap.size ∧ w.cell? ⟨b, off + j, none⟩ = some (.string x)

set_option maxHeartbeats 6400000 in
theorem all_some (b off c d : Nat) (q : Option Addr) (l m : List ByteArray) (w : World) (hG : Glob w) (hw2 : 2 ≤ w.heap.size) (hb : b < w.heap.size) (hl : ∀ j x, l[j]? = some x → w.cell? ⟨b, off + j, none⟩ = some (.string x)) (hm : StrA w q m)
    (h1 : l.length * 16 ≤ 140737488351232) (h2 : m.length * 16 ≤ 140737488351232) :
    Calls Tryz.prog 5 #[.slice (some ⟨b, off, none⟩) l.length c, .slice q m.length d] w fun e w' => e = .returned (.bool true) ∧ Below w.heap.size w w' := by
  have HS : Hid (∀ s wx, Below w.heap.size w wx → Calls Tryz.prog 13 #[.string s] wx fun e w' => e = .returned (.bool true) ∧ Below wx.heap.size wx w') := fun s wx hx => shows_any s wx (hG.below hx hw2) (by have := hx.size; omega)
  have HD : Hid (∀ s t wx, Below w.heap.size w wx → Calls Tryz.prog 14 #[.string s, .string t] wx fun e w' => e = .returned (.bool true) ∧ Below wx.heap.size wx w') := fun s t wx hx => dists_any s t wx (hG.below hx hw2) (by have := hx.size; omega)
  have HF : Hid (∀ s t wx, Below w.heap.size w wx → Calls Tryz.prog 3 #[.string s, .string t] wx fun e w' => e = .returned (.bool true) ∧ Below wx.heap.size wx w') := fun s t wx hx => diffs_any s t wx (hG.below hx hw2) (by have := hx.size; omega)
  have HP : Hid (∀ s t wx, Below w.heap.size w wx → Calls Tryz.prog 4 #[.string s, .string t] wx fun e w' => e = .returned (.bool true) ∧ Below wx.heap.size wx w') := fun s t wx hx => patches_any s t wx (hG.below hx hw2) (by have := hx.size; omega)
  have HCL : Hid (∀ wx, Below w.heap.size w wx → ∀ j x, l[j]? = some x → wx.cell? ⟨b, off + j, none⟩ = some (.string x)) := fun wx hx j x h => (cell_heap (hx.block b hb)).trans (hl j x h)
  have HCM : Hid (∀ wx, Below w.heap.size w wx → ∀ j x, m[j]? = some x → ∃ b' o', q = some ⟨b', o', none⟩ ∧ wx.cell? ⟨b', o' + j, none⟩ = some (.string x)) := fun wx hx j x h => by
    obtain ⟨b', o', e, hb', hc⟩ := hm j x h
    exact ⟨b', o', e, (cell_heap (hx.block b' hb')).trans hc⟩
  clear hG hb hl hm hw2
  go_enter Tryz.func5, Tryz.ntmps5
  go_wp2_with fail
  go_loopw [6, 8, 10, 13] (fun _ _ _ i wr => ∃ k : Nat, k ≤ l.length ∧ i = .int .i64 (k : Int) ∧ Below w.heap.size w wr) (fun _ _ _ i _ => l.length - (intOf i).toNat)
  case atStart => exact ⟨0, Nat.zero_le _, rfl, Below.refl _ _⟩
  case round =>
    obtain ⟨k, hk, rfl, hB⟩ := hrel
    have HB := hide hB
    by_cases hlt : k < l.length
    · obtain ⟨x, hx⟩ : ∃ x, l[k]? = some x := ⟨_, List.getElem?_eq_getElem hlt⟩
      have c0 := unhide HCL _ hB k x hx
      clear hB hx
      go_wp2_with fail
      refine (unhide HS x _ (unhide HB)).mono ?_
      rintro e w1 ⟨rfl, hB1⟩
      have HB1 := hide ((unhide HB).trans (hB1.mono (unhide HB).size))
      clear hB1 c0 HB HS
      go_wp2_with fail
      go_loopw [8, 22] (fun _ i wr => ∃ j : Nat, j ≤ l.length ∧ i = .int .i64 (j : Int) ∧ Below w.heap.size w wr) (fun _ i _ => l.length - (intOf i).toNat)
      case atStart => exact ⟨0, Nat.zero_le _, rfl, unhide HB1⟩
      case round =>
        obtain ⟨j, hj, rfl, hB2⟩ := hrel
        have HB2 := hide hB2
        by_cases hlt2 : j < l.length
        · obtain ⟨y, hy⟩ : ∃ y, l[j]? = some y := ⟨_, List.getElem?_eq_getElem hlt2⟩
          have c1 := unhide HCL _ hB2 j y hy
          clear hB2 hy
          go_wp2_with fail
          refine (unhide HD x y _ (unhide HB2)).mono ?_
          rintro e w3 ⟨rfl, hB3⟩
          have HB3 := hide ((unhide HB2).trans (hB3.mono (unhide HB2).size))
          clear hB3 c1
          go_wp2_with fail
          refine (unhide HF x y _ (unhide HB3)).mono ?_
          rintro e w4 ⟨rfl, hB4⟩
          have HB4 := hide ((unhide HB3).trans (hB4.mono (unhide HB3).size))
          clear hB4
          go_wp2_with fail
          go_roundw
          case rel => exact ⟨j + 1, by omega, by go_num, unhide HB4⟩
          case measure => simp [intOf]; omega
        · clear hB2
          go_wp2_with fail
          go_loopw [10, 39] (fun _ i wr => ∃ t : Nat, t ≤ m.length ∧ i = .int .i64 (t : Int) ∧ Below w.heap.size w wr) (fun _ i _ => m.length - (intOf i).toNat)
          case atStart => exact ⟨0, Nat.zero_le _, rfl, unhide HB2⟩
          case round =>
            obtain ⟨t, ht, rfl, hB5⟩ := hrel
            have HB5 := hide hB5
            by_cases hlt3 : t < m.length
            · obtain ⟨z, hz⟩ : ∃ z, m[t]? = some z := ⟨_, List.getElem?_eq_getElem hlt3⟩
              obtain ⟨b', o', rfl, c2⟩ := unhide HCM _ hB5 t z hz
              clear hB5 hz
              go_wp2_with fail
              refine (unhide HP x z _ (unhide HB5)).mono ?_
              rintro e w6 ⟨rfl, hB6⟩
              have HB6 := hide ((unhide HB5).trans (hB6.mono (unhide HB5).size))
              clear hB6 c2
              go_wp2_with fail
              go_roundw
              case rel => exact ⟨t + 1, by omega, by go_num, unhide HB6⟩
              case measure => simp [intOf]; omega
            · clear hB5
              go_wp2_with fail
              go_roundw
              case rel => exact ⟨k + 1, by omega, by go_num, unhide HB5⟩
              case measure => simp [intOf]; omega
    · clear hB
      go_wp2_with fail
      go_ret
      exact ⟨rfl, unhide HB⟩

set_option maxHeartbeats 1600000 in
theorem all_none (p q : Option Addr) (c d n : Nat) (w : World) :
    Calls Tryz.prog 5 #[.slice p 0 c, .slice q n d] w fun e w' => e = .returned (.bool true) ∧ Below w.heap.size w w' := by
  go_enter Tryz.func5, Tryz.ntmps5
  go_wp2_with fail
  go_loopw [6, 8, 10, 13] (fun _ _ _ i wr => i = .int .i64 0 ∧ Below w.heap.size w wr) (fun _ _ _ _ _ => 0)
  case atStart => exact ⟨rfl, Below.refl _ _⟩
  case round =>
    obtain ⟨rfl, hB⟩ := hrel
    have HB := hide hB
    clear hB
    go_wp2_with fail
    go_ret
    exact ⟨rfl, unhide HB⟩

theorem all_any (p q : Option Addr) (c d : Nat) (l m : List ByteArray) (w : World) (hG : Glob w) (hw2 : 2 ≤ w.heap.size) (hl : StrA w p l) (hm : StrA w q m) (h1 : l.length * 16 ≤ 140737488351232) (h2 : m.length * 16 ≤ 140737488351232) :
    Calls Tryz.prog 5 #[.slice p l.length c, .slice q m.length d] w fun e w' => e = .returned (.bool true) ∧ Below w.heap.size w w' := by
  cases l with
  | nil => exact all_none p q c d m.length w
  | cons x l =>
    obtain ⟨b, off, rfl, hb, _⟩ := hl 0 x rfl
    exact all_some b off c d q (x :: l) m w hG hw2 hb (fun j y hy => by
      obtain ⟨b', o', e, _, hc⟩ := hl j y hy
      cases e
      exact hc) hm h1 h2

end Go.Proofs.YtdaneedflpfeaaaGreatDoor
