import Derived.Test.YtdaneedflpfeaaaDoorRefAcc
namespace Go.Proofs.YtdaneedflpfeaaaDoor
set_option maxRecDepth 100000
open Go.RowKit

section
variable {w0 w : World} {b : Nat} {lv : Value} {rt : List RTok} {toks : List Tok} {st s' : RSt} {v u : Value} {l m : List Rw} {f : G → RSt → Option (List Rw × RSt)}
theorem is_two (R : Rel rt toks) (hk : st.k < rt.length) (x y : ByteArray) (hx : plainW x = true) (hy : plainW y = true) : isR rt st [x, y] = (condR toks st (.is x.data.toList) || condR toks st (.is y.data.toList)) := by
  rw [isR_plain R hk [x, y] (by simp [hx, hy])]
  simp only [condR, condA, condK, List.any_cons, List.any_nil, Bool.or_false]
  cases decide (st.bad < 0) <;> rfl
def relW : List ByteArray := [⟨#[61, 61]⟩, ⟨#[33, 61]⟩, ⟨#[60]⟩, ⟨#[62]⟩]
def sumW : List ByteArray := [⟨#[43]⟩, ⟨#[45]⟩]
def prodW : List ByteArray := [⟨#[42]⟩, ⟨#[47]⟩]
def signW : List ByteArray := [⟨#[45]⟩, ⟨#[33]⟩]
theorem is_rel (R : Rel rt toks) (hk : st.k < rt.length) : isR rt st relW = condR toks st .rel := by
  rw [isR_plain R hk _ (by decide)]
  simp only [condR, condA, condK, relB, relW, List.any_cons, List.any_nil, Bool.or_false, Bool.or_assoc]
theorem is_sum (R : Rel rt toks) (hk : st.k < rt.length) : isR rt st sumW = condR toks st .sum := by
  rw [isR_plain R hk _ (by decide)]
  simp only [condR, condA, condK, sumB, sumW, List.any_cons, List.any_nil, Bool.or_false]
theorem is_prod (R : Rel rt toks) (hk : st.k < rt.length) : isR rt st prodW = condR toks st .prod := by
  rw [isR_plain R hk _ (by decide)]
  simp only [condR, condA, condK, prodB, prodW, List.any_cons, List.any_nil, Bool.or_false]
theorem is_sign (R : Rel rt toks) (hk : st.k < rt.length) : isR rt st signW = condR toks st .sign := by
  rw [isR_plain R hk _ (by decide)]
  simp only [condR, condA, condK, signW, List.any_cons, List.any_nil, Bool.or_false]

theorem go_yes {c : List UInt8} (h : condR toks st (.go c) = true) : st.bad < 0 ∧ condR toks st (.is c) = false := by
  simp only [condR, condA, condK, Bool.and_eq_true, decide_eq_true_eq, Bool.not_eq_true'] at h
  exact ⟨h.1, by simp [condR, condA, condK, h.2]⟩
theorem go_no {c : List UInt8} (h : condR toks st (.go c) = false) : ¬ st.bad < 0 ∨ (st.bad < 0 ∧ condR toks st (.is c) = true) := by
  by_cases hb : st.bad < 0
  · right
    refine ⟨hb, ?_⟩
    simp only [condR, condA, condK, hb, decide_true, Bool.true_and, Bool.not_eq_false'] at h ⊢
    exact h
  · exact .inl hb
theorem cond_ok {c : Cond} (h : condR toks st c = true) : st.bad < 0 := by
  simp only [condR, Bool.and_eq_true, decide_eq_true_eq] at h; exact h.1

theorem need_ri (R : Rel rt toks) (A : Acc w0 b lv rt w st v l) (ws : List ByteArray) (kd : ByteArray) (hn : ws.length ≤ 10) (hkd : kd ≠ kNone) (hke : kd ≠ kEnd) (hc : isR rt st ws = condR toks st (.is kd.data.toList)) (h : RI toks f (.need kd) st = some (m, s')) :
    Calls Tryd.prog 34 #[.pointer (some ⟨b, 0, none⟩), .slice (some ⟨w.heap.size, 0, none⟩) ws.length ws.length] (w.alloc (.cells (ws.map Value.string).toArray 9 (0, 0))) fun e w' => ∃ u, e = .returned u ∧ Acc w0 b lv rt w' s' v l ∧ Held w0 w' u m := by
  obtain ⟨rfl, rfl⟩ := RI_need h
  exact need_acc R A ws kd hn hkd hke hc
theorem typed_ri {s1 : RSt} {m1 : List Rw} (R : Rel rt toks) (A : Acc w0 b lv rt w st v l) (h1 : RI toks f (.need kType) st = some (m1, s1)) (h2 : RI toks f (.need kName) s1 = some (m, s')) :
    Calls Tryd.prog 33 #[.pointer (some ⟨b, 0, none⟩)] w fun e w' => ∃ u, e = .returned u ∧ Acc w0 b lv rt w' s' v l ∧ Held w0 w' u (m1 ++ m) := by
  obtain ⟨rfl, rfl⟩ := RI_need h1
  obtain ⟨rfl, rfl⟩ := RI_need h2
  exact typed_acc R A
/-- need, where the next token is known to be one of its words. -/
theorem take_ri (R : Rel rt toks) (A : Acc w0 b lv rt w st v l) (ws : List ByteArray) (hn : ws.length ≤ 10) (hp : ws.all (fun x => plainW x && decide (x ≠ kEnd)) = true) (hc : isR rt st ws = true) (h : RI toks f .take st = some (m, s')) :
    Calls Tryd.prog 34 #[.pointer (some ⟨b, 0, none⟩), .slice (some ⟨w.heap.size, 0, none⟩) ws.length ws.length] (w.alloc (.cells (ws.map Value.string).toArray 9 (0, 0))) fun e w' => ∃ u, e = .returned u ∧ Acc w0 b lv rt w' s' v l ∧ Held w0 w' u m ∧ s'.bad < 0 := by
  obtain ⟨rfl, rfl⟩ := RI_take h
  have hk := A.rs.att
  obtain ⟨t, ht⟩ : ∃ t, toks[st.k]? = some t := ⟨toks[st.k]'(by rw [R.len]; exact hk), List.getElem?_eq_getElem _⟩
  obtain ⟨r, hr, hkd, _, hw, _, hnx⟩ := R.at_ st.k t ht
  have hin := hc
  simp only [isR, Bool.and_eq_true, decide_eq_true_eq, List.any_eq_true, whatR, hr] at hin
  obtain ⟨hb, x, hx, he⟩ := hin
  have hxp := List.all_eq_true.1 hp x hx
  simp only [plainW, Bool.and_eq_true, Bool.not_eq_true', decide_eq_true_eq] at hxp
  obtain ⟨⟨⟨h1, h2⟩, h3⟩, h4⟩ := hxp
  rw [ba_beq, decide_eq_true_eq] at he
  have hkx : t.kind = x := by rw [← hkd]; exact (kindW_eq (by rw [Go.ByteArray.toList_eq]; exact h1) h2).2 he
  have hn1 : needR rt ws st = takeT toks st := by
    unfold needR takeT
    rw [hc, if_pos rfl, if_pos hb]
    simp only [wholeR, textT, hr, ht, hw (by rw [hkx]; exact h3)]
  have hs : (takeT toks st).2.bad < 0 := by unfold takeT; rw [if_pos hb]; exact hb
  refine (rneed_any b lv rt _ st (A.alloc _).rs w.heap.size ws ws.length hn 9 (0, 0) (heap_alloc_new _ _) (fun _ => hnx (by rw [hkx]; exact h3) (by rw [hkx]; exact h4))).mono ?_
  rintro e w' ⟨u, rfl, g1, g2, g3⟩
  rw [hn1] at g1 g3
  exact ⟨u, rfl, (A.alloc _).step g1 g2, ownsRow_base g3 (by have := A.size; simp; omega), hs⟩
theorem fine_len (h : fineR l = true) : l.length ≤ 99999 := by
  simp only [fineR, Bool.and_eq_true, decide_eq_true_eq] at h; exact h.1
end

end Go.Proofs.YtdaneedflpfeaaaDoor
