import Derived.Test.YtdaneedflpfeaaaDoorRefAcc2
namespace Go.Proofs.YtdaneedflpfeaaaDoor
set_option maxRecDepth 100000
open Go.RowKit

theorem Acc.cast {w0 w : World} {b : Nat} {lv : Value} {rt : List RTok} {st : RSt} {v : Value} {l l' : List Rw} (h : Acc w0 b lv rt w st v l) (e : l = l') : Acc w0 b lv rt w st v l' := e ▸ h
/-- The next token's word, in memory. -/
theorem what_here {w : World} {b : Nat} {lv : Value} {rt : List RTok} {toks : List Tok} {st : RSt} (R : Rel rt toks) (h : RS b lv rt w st) (x : ByteArray) (hx : plainW x = true) (hc : condR toks st (.is x.data.toList) = true) :
    ∃ g cap, lv = .slice (some ⟨g, 0, none⟩) rt.length cap ∧ w.cell? ⟨g, st.k * 3, none⟩ = some (.string x) := by
  obtain ⟨g, cap, hlv, _⟩ := h.tat
  have hk := h.att
  obtain ⟨t, ht⟩ : ∃ t, toks[st.k]? = some t := ⟨toks[st.k]'(by rw [R.len]; exact hk), List.getElem?_eq_getElem _⟩
  obtain ⟨r, hr, hkd, _⟩ := R.at_ st.k t ht
  have hkx : t.kind = x := by
    simp only [condR, condA, condK, kindA, ht, Bool.and_eq_true, beq_iff_eq] at hc
    exact ByteArray.ext (Array.toList_inj.mp hc.2)
  simp only [plainW, Bool.and_eq_true, Bool.not_eq_true', decide_eq_true_eq] at hx
  have hrx : r.what = x := (kindW_eq (by rw [Go.ByteArray.toList_eq]; exact hx.1.1) hx.1.2).1 (hkd.trans hkx)
  refine ⟨g, cap, hlv, ?_⟩
  rw [← hrx]; exact (h.tokCell hlv hr).1

end Go.Proofs.YtdaneedflpfeaaaDoor
