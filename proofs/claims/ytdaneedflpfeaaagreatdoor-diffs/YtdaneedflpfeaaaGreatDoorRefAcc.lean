import Derived.Test.YtdaneedflpfeaaaGreatDoorRefNode
import Derived.Deep.LoopGhost
namespace Go.Proofs.YtdaneedflpfeaaaGreatDoor
set_option maxRecDepth 100000
open Go.RowKit

/-- Rows at hand: made since the call began. -/
def Held (w0 w : World) (u : Value) (m : List Rw) : Prop := w.ownsRow w0.heap.size 51 3 u m.length (rwsCells m)
/-- A method of the reader on its way: the reader's memory, what has changed since the call began, the rows that it gathers. -/
structure Acc (w0 : World) (b : Nat) (lv : Value) (rt : List RTok) (w : World) (st : RSt) (v : Value) (l : List Rw) : Prop where
  rs : RS b lv rt w st
  gr : w0.grownBy w (some b)
  own : Held w0 w v l
  blt : b < w0.heap.size

section
variable {w0 w w' : World} {b : Nat} {lv : Value} {rt : List RTok} {toks : List Tok} {st st' : RSt} {v u : Value} {l m : List Rw}
theorem Held.nil (w0 w : World) : Held w0 w (.slice none 0 0) [] := World.ownsRow_nil _ _ _ _
theorem Held.kept {row : Option Nat} (h : Held w0 w u m) (hg : w.grownBy w' row) (hr : ∀ k, row = some k → k < w0.heap.size) : Held w0 w' u m := by
  refine World.ownsRow.kept h hg ?_
  cases hv : u.ownBlock with
  | none => exact .inl rfl
  | some g =>
    right
    intro e
    have h1 := World.ownsRow.lt h g hv
    have h2 := hr g e.symm
    omega
theorem Acc.start (h : RS b lv rt w st) : Acc w b lv rt w st (.slice none 0 0) [] := ⟨h, grown_refl _ _, Held.nil _ _, h.lt⟩
theorem Acc.size (h : Acc w0 b lv rt w st v l) : w0.heap.size ≤ w.heap.size := h.gr.size
theorem Acc.none {w' : World} (h : Acc w0 b lv rt w st v l) (hg : w.grownBy w' none) : Acc w0 b lv rt w' st v l :=
  ⟨h.rs.grown hg (fun r e => by cases e), h.gr.trans ⟨hg.os, hg.tape, hg.output, hg.size, fun k hk _ => hg.block k hk (by intro e; cases e)⟩, h.own.kept hg (fun k e => by cases e), h.blt⟩
theorem Acc.alloc (h : Acc w0 b lv rt w st v l) (o : Obj) : Acc w0 b lv rt (w.alloc o) st v l := h.none (World.grownBy_alloc _ _ _)
theorem Acc.step (h : Acc w0 b lv rt w st v l) (hrs : RS b lv rt w' st') (hg : w.grownBy w' (some b)) : Acc w0 b lv rt w' st' v l :=
  ⟨hrs, h.gr.trans hg, h.own.kept hg (fun k e => by cases e; exact h.blt), h.blt⟩
/-- Rows at hand become those that are gathered. -/
theorem Acc.take (h : Acc w0 b lv rt w st v l) (hu : Held w0 w u m) : Acc w0 b lv rt w st u m := ⟨h.rs, h.gr, hu, h.blt⟩
theorem Acc.app {v' : Value} (h : Acc w0 b lv rt w st v l) (ho : Held w0 w' v' m) (hg : w.grownBy w' v.ownBlock) : Acc w0 b lv rt w' st v' m := by
  have hlt := World.ownsRow.lt h.own
  refine ⟨h.rs.grown hg (fun r e => by have := hlt r e; have := h.blt; omega), ?_, ho, h.blt⟩
  exact h.gr.andThen hg (fun j e => .inl (hlt j e).1)

/-- append(x, y...) on the way. -/
theorem append_acc {ops : Array Oper} {rest : List Oper} {o : Oper} {a : Act} {Q : Exit → Act → World → Prop} (A : Acc w0 b lv rt w st v l) (U : Held w0 w u m) (s x : Operand) (hgd : o.guard = none)
    (ho : o.op = .call { callee := .builtin .append, args := #[s, x], argTypes := #[25, 25] }) (hs : a.eval s = v) (hx : a.eval x = u) (hfew : l.length + m.length ≤ 999999)
    (h : ∀ v' w', Acc w0 b lv rt w' st v' (l ++ m) → wpList Tryz.prog ops Q rest (a.put o.dst v') w') : wpList Tryz.prog ops Q (o :: rest) a w :=
  append_rows hgd s x ho _ _ v u l m hs hx A.own U A.size hfew fun v' w' h1 h2 => h v' w' (A.app h1 h2)

theorem is_acc (A : Acc w0 b lv rt w st v l) (ws : List ByteArray) (c : Bool) (hn : ws.length ≤ 10) (hc : isR rt st ws = c) :
    Calls Tryz.prog 40 #[.pointer (some ⟨b, 0, none⟩), .slice (some ⟨w.heap.size, 0, none⟩) ws.length ws.length] (w.alloc (.cells (ws.map Value.string).toArray 9 (0, 0))) fun e w' => e = .returned (.bool c) ∧ Acc w0 b lv rt w' st v l := by
  refine (is_any b lv rt _ st (A.alloc _).rs w.heap.size ws ws.length hn 9 (0, 0) (heap_alloc_new _ _)).mono ?_
  rintro e w' ⟨rfl, n, rfl⟩
  exact ⟨by rw [hc], (A.alloc _).none (grown_drewN _ _ _)⟩
theorem need_acc (R : Rel rt toks) (A : Acc w0 b lv rt w st v l) (ws : List ByteArray) (kd : ByteArray) (hn : ws.length ≤ 10) (hkd : kd ≠ kNone) (hke : kd ≠ kEnd) (hc : isR rt st ws = condR toks st (.is kd.data.toList)) :
    Calls Tryz.prog 69 #[.pointer (some ⟨b, 0, none⟩), .slice (some ⟨w.heap.size, 0, none⟩) ws.length ws.length] (w.alloc (.cells (ws.map Value.string).toArray 9 (0, 0))) fun e w' =>
      ∃ u, e = .returned u ∧ Acc w0 b lv rt w' (needT toks kd st).2 v l ∧ Held w0 w' u (needT toks kd st).1 := by
  have hne := need_eq R A.rs.att ws kd hkd hc
  refine (rneed_any b lv rt _ st (A.alloc _).rs w.heap.size ws ws.length hn 9 (0, 0) (heap_alloc_new _ _) (hne.2 hke)).mono ?_
  rintro e w' ⟨u, rfl, h1, h2, h3⟩
  rw [hne.1] at h1 h3
  exact ⟨u, rfl, (A.alloc _).step h1 h2, ownsRow_base h3 (by have := A.size; simp; omega)⟩
theorem node_acc (A : Acc w0 b lv rt w st v l) (U : Held w0 w u m) (kd : ByteArray) (hf : fineR m = true) :
    Calls Tryz.prog 25 #[.string kd, u] w fun e w' => ∃ u', e = .returned u' ∧ Acc w0 b lv rt w' st v l ∧ Held w0 w' u' (nodeR kd m) := by
  simp only [fineR, Bool.and_eq_true, decide_eq_true_eq, List.all_eq_true] at hf
  refine (node_any kd u w m _ U hf.1 hf.2).mono ?_
  rintro e w' ⟨u', rfl, h1, h2⟩
  exact ⟨u', rfl, A.none h1, ownsRow_base h2 A.size⟩

/-- One word, of our kinds. -/
theorem is_one (R : Rel rt toks) (hk : st.k < rt.length) (x : ByteArray) (hx : plainW x = true) : isR rt st [x] = condR toks st (.is x.data.toList) := by
  rw [isR_plain R hk [x] (by simp [hx])]
  simp [condR, condA, condK]
end

/-- What a method of the reader does. -/
def RDoes (f : Nat) (b : Nat) (lv : Value) (rt : List RTok) (w : World) (r : List Rw) (st' : RSt) : Prop :=
  Calls Tryz.prog f #[.pointer (some ⟨b, 0, none⟩)] w fun e w' => ∃ v, e = .returned v ∧ Acc w b lv rt w' st' v r
/-- The methods of the reader. -/
def G.rnum : G → Nat
  | .function => 41 | .block => 70 | .statement => 94 | .value => 111 | .or => 123 | .and => 135 | .rel => 144 | .sum => 149 | .prod => 152 | .single => 154
  | _ => 0
def G.rmeth : G → Bool
  | .function | .block | .statement | .value | .or | .and | .rel | .sum | .prod | .single => true
  | _ => false
/-- The contracts of all methods at a bound. -/
def RIH (b : Nat) (lv : Value) (rt : List RTok) (toks : List Tok) (n : Nat) : Prop :=
  ∀ g st st' r w, g.rmeth = true → RS b lv rt w st → Rg toks n g st = some (r, st') → RDoes g.rnum b lv rt w r st'
/-- A call of a method on the way. -/
theorem call_acc {w0 w : World} {b : Nat} {lv : Value} {rt : List RTok} {toks : List Tok} {n : Nat} {st st' : RSt} {v : Value} {l r : List Rw} (ih : RIH b lv rt toks n) (A : Acc w0 b lv rt w st v l) (g : G) (hg : g.rmeth = true)
    (h : Rg toks n g st = some (r, st')) : Calls Tryz.prog g.rnum #[.pointer (some ⟨b, 0, none⟩)] w fun e w' => ∃ u, e = .returned u ∧ Acc w0 b lv rt w' st' v l ∧ Held w0 w' u r := by
  refine Calls.mono (ih g st st' r w hg A.rs h) ?_
  rintro e w' ⟨u, rfl, h1⟩
  exact ⟨u, rfl, A.step h1.rs h1.gr, ownsRow_base h1.own A.size⟩

set_option maxHeartbeats 1600000 in
theorem typed_acc {w0 w : World} {b : Nat} {lv : Value} {rt : List RTok} {toks : List Tok} {st : RSt} {v : Value} {l : List Rw} (R : Rel rt toks) (A : Acc w0 b lv rt w st v l) :
    Calls Tryz.prog 68 #[.pointer (some ⟨b, 0, none⟩)] w fun e w' => ∃ u, e = .returned u ∧ Acc w0 b lv rt w' (needT toks kName (needT toks kType st).2).2 v l ∧ Held w0 w' u ((needT toks kType st).1 ++ (needT toks kName (needT toks kType st).2).1) := by
  have HR := hide R
  have HA := hide A
  have H0 := hide (Acc.start A.rs)
  clear R A
  have L1 : (needT toks kType st).1.length ≤ 1 := by unfold needT; split <;> simp
  have L2 : ∀ s, (needT toks kName s).1.length ≤ 1 := by intro s; unfold needT; split <;> simp
  go_enter Tryz.func68, Tryz.ntmps68
  go_wp2_with fail
  refine (need_acc (unhide HR) (unhide H0) tyW kType (by decide) (by decide) (by decide) (isR_ty (unhide HR) (unhide H0).rs.att)).mono ?_
  rintro e w1 ⟨u1, rfl, a1, h1⟩
  have H1 := hide (a1.take h1)
  clear a1 h1
  go_wp2_with fail
  refine (need_acc (unhide HR) (unhide H1) [kName] kName (by decide) (by decide) (by decide) (is_one (unhide HR) (unhide H1).rs.att kName (by decide))).mono ?_
  rintro e w2 ⟨u2, rfl, a2, h2⟩
  have H2 := hide a2
  have K2 := hide h2
  clear a2 h2
  go_wp2_with (first
    | (at_builtin; refine append_acc (unhide H2) (unhide K2) _ _ rfl rfl rfl rfl (by have := L2 (needT toks kType st).2; omega) ?_)
    | fail)
  intro v3 w3 a3
  have H3 := hide a3
  clear a3
  go_wp2_with fail
  go_ret
  exact ⟨_, rfl, (unhide HA).step (unhide H3).rs (unhide H3).gr, ownsRow_base (unhide H3).own (unhide HA).size⟩

end Go.Proofs.YtdaneedflpfeaaaGreatDoor

namespace Go.Proofs.YtdaneedflpfeaaaGreatDoor
set_option maxRecDepth 100000
open Go.RowKit

section
variable {w0 w : World} {b : Nat} {lv : Value} {rt : List RTok} {toks : List Tok} {st s' : RSt} {v u : Value} {l m : List Rw} {f : G → RSt → Option (List Rw × RSt)}
theorem is_two (R : Rel rt toks) (hk : st.k < rt.length) (x y : ByteArray) (hx : plainW x = true) (hy : plainW y = true) : isR rt st [x, y] = (condR toks st (.is x.data.toList) || condR toks st (.is y.data.toList)) := by
  rw [isR_plain R hk [x, y] (by simp [hx, hy])]
  simp only [condR, condA, condK, List.any_cons, List.any_nil, Bool.or_false]
  cases decide (st.bad < 0) <;> rfl
def relW : List ByteArray := [⟨#[61, 61]⟩, ⟨#[33, 61]⟩, ⟨#[60]⟩, ⟨#[62]⟩]
def sumW : List ByteArray := [⟨#[43]⟩, ⟨#[45]⟩]
def prodW : List ByteArray := [⟨#[42]⟩, ⟨#[47]⟩]
def signW : List ByteArray := [⟨#[45]⟩, ⟨#[33]⟩]
theorem is_rel (R : Rel rt toks) (hk : st.k < rt.length) : isR rt st relW = condR toks st .rel := by
  rw [isR_plain R hk _ (by decide)]
  simp only [condR, condA, condK, relB, relW, List.any_cons, List.any_nil, Bool.or_false, Bool.or_assoc]
theorem is_sum (R : Rel rt toks) (hk : st.k < rt.length) : isR rt st sumW = condR toks st .sum := by
  rw [isR_plain R hk _ (by decide)]
  simp only [condR, condA, condK, sumB, sumW, List.any_cons, List.any_nil, Bool.or_false]
theorem is_prod (R : Rel rt toks) (hk : st.k < rt.length) : isR rt st prodW = condR toks st .prod := by
  rw [isR_plain R hk _ (by decide)]
  simp only [condR, condA, condK, prodB, prodW, List.any_cons, List.any_nil, Bool.or_false]
theorem is_sign (R : Rel rt toks) (hk : st.k < rt.length) : isR rt st signW = condR toks st .sign := by
  rw [isR_plain R hk _ (by decide)]
  simp only [condR, condA, condK, signW, List.any_cons, List.any_nil, Bool.or_false]

theorem go_yes {c : List UInt8} (h : condR toks st (.go c) = true) : st.bad < 0 ∧ condR toks st (.is c) = false := by
  simp only [condR, condA, condK, Bool.and_eq_true, decide_eq_true_eq, Bool.not_eq_true'] at h
  exact ⟨h.1, by simp [condR, condA, condK, h.2]⟩
theorem go_no {c : List UInt8} (h : condR toks st (.go c) = false) : ¬ st.bad < 0 ∨ (st.bad < 0 ∧ condR toks st (.is c) = true) := by
  by_cases hb : st.bad < 0
  · right
    refine ⟨hb, ?_⟩
    simp only [condR, condA, condK, hb, decide_true, Bool.true_and, Bool.not_eq_false'] at h ⊢
    exact h
  · exact .inl hb
theorem cond_ok {c : Cond} (h : condR toks st c = true) : st.bad < 0 := by
  simp only [condR, Bool.and_eq_true, decide_eq_true_eq] at h; exact h.1

theorem need_ri (R : Rel rt toks) (A : Acc w0 b lv rt w st v l) (ws : List ByteArray) (kd : ByteArray) (hn : ws.length ≤ 10) (hkd : kd ≠ kNone) (hke : kd ≠ kEnd) (hc : isR rt st ws = condR toks st (.is kd.data.toList)) (h : RI toks f (.need kd) st = some (m, s')) :
    Calls Tryz.prog 69 #[.pointer (some ⟨b, 0, none⟩), .slice (some ⟨w.heap.size, 0, none⟩) ws.length ws.length] (w.alloc (.cells (ws.map Value.string).toArray 9 (0, 0))) fun e w' => ∃ u, e = .returned u ∧ Acc w0 b lv rt w' s' v l ∧ Held w0 w' u m := by
  obtain ⟨rfl, rfl⟩ := RI_need h
  exact need_acc R A ws kd hn hkd hke hc
theorem typed_ri {s1 : RSt} {m1 : List Rw} (R : Rel rt toks) (A : Acc w0 b lv rt w st v l) (h1 : RI toks f (.need kType) st = some (m1, s1)) (h2 : RI toks f (.need kName) s1 = some (m, s')) :
    Calls Tryz.prog 68 #[.pointer (some ⟨b, 0, none⟩)] w fun e w' => ∃ u, e = .returned u ∧ Acc w0 b lv rt w' s' v l ∧ Held w0 w' u (m1 ++ m) := by
  obtain ⟨rfl, rfl⟩ := RI_need h1
  obtain ⟨rfl, rfl⟩ := RI_need h2
  exact typed_acc R A
/-- need, where the next token is known to be one of its words. -/
theorem take_ri (R : Rel rt toks) (A : Acc w0 b lv rt w st v l) (ws : List ByteArray) (hn : ws.length ≤ 10) (hp : ws.all (fun x => plainW x && decide (x ≠ kEnd)) = true) (hc : isR rt st ws = true) (h : RI toks f .take st = some (m, s')) :
    Calls Tryz.prog 69 #[.pointer (some ⟨b, 0, none⟩), .slice (some ⟨w.heap.size, 0, none⟩) ws.length ws.length] (w.alloc (.cells (ws.map Value.string).toArray 9 (0, 0))) fun e w' => ∃ u, e = .returned u ∧ Acc w0 b lv rt w' s' v l ∧ Held w0 w' u m ∧ s'.bad < 0 := by
  obtain ⟨rfl, rfl⟩ := RI_take h
  have hk := A.rs.att
  obtain ⟨t, ht⟩ : ∃ t, toks[st.k]? = some t := ⟨toks[st.k]'(by rw [R.len]; exact hk), List.getElem?_eq_getElem _⟩
  obtain ⟨r, hr, hkd, _, hw, _, hnx⟩ := R.at_ st.k t ht
  have hin := hc
  simp only [isR, Bool.and_eq_true, decide_eq_true_eq, List.any_eq_true, whatR, hr] at hin
  obtain ⟨hb, x, hx, he⟩ := hin
  have hxp := List.all_eq_true.1 hp x hx
  simp only [plainW, Bool.and_eq_true, Bool.not_eq_true', decide_eq_true_eq] at hxp
  obtain ⟨⟨⟨h1, h2⟩, h3⟩, h4⟩ := hxp
  rw [ba_beq, decide_eq_true_eq] at he
  have hkx : t.kind = x := by rw [← hkd]; exact (kindW_eq (by rw [Go.ByteArray.toList_eq]; exact h1) h2).2 he
  have hn1 : needR rt ws st = takeT toks st := by
    unfold needR takeT
    rw [hc, if_pos rfl, if_pos hb]
    simp only [wholeR, textT, hr, ht, hw (by rw [hkx]; exact h3)]
  have hs : (takeT toks st).2.bad < 0 := by unfold takeT; rw [if_pos hb]; exact hb
  refine (rneed_any b lv rt _ st (A.alloc _).rs w.heap.size ws ws.length hn 9 (0, 0) (heap_alloc_new _ _) (fun _ => hnx (by rw [hkx]; exact h3) (by rw [hkx]; exact h4))).mono ?_
  rintro e w' ⟨u, rfl, g1, g2, g3⟩
  rw [hn1] at g1 g3
  exact ⟨u, rfl, (A.alloc _).step g1 g2, ownsRow_base g3 (by have := A.size; simp; omega), hs⟩
theorem fine_len (h : fineR l = true) : l.length ≤ 99999 := by
  simp only [fineR, Bool.and_eq_true, decide_eq_true_eq] at h; exact h.1
end

end Go.Proofs.YtdaneedflpfeaaaGreatDoor

namespace Go.Proofs.YtdaneedflpfeaaaGreatDoor
set_option maxRecDepth 100000
open Go.RowKit

theorem Acc.cast {w0 w : World} {b : Nat} {lv : Value} {rt : List RTok} {st : RSt} {v : Value} {l l' : List Rw} (h : Acc w0 b lv rt w st v l) (e : l = l') : Acc w0 b lv rt w st v l' := e ▸ h
/-- The next token's word, in memory. -/
theorem what_here {w : World} {b : Nat} {lv : Value} {rt : List RTok} {toks : List Tok} {st : RSt} (R : Rel rt toks) (h : RS b lv rt w st) (x : ByteArray) (hx : plainW x = true) (hc : condR toks st (.is x.data.toList) = true) :
    ∃ g cap, lv = .slice (some ⟨g, 0, none⟩) rt.length cap ∧ w.cell? ⟨g, st.k * 3, none⟩ = some (.string x) := by
  obtain ⟨g, cap, hlv, _⟩ := h.tat
  have hk := h.att
  obtain ⟨t, ht⟩ : ∃ t, toks[st.k]? = some t := ⟨toks[st.k]'(by rw [R.len]; exact hk), List.getElem?_eq_getElem _⟩
  obtain ⟨r, hr, hkd, _⟩ := R.at_ st.k t ht
  have hkx : t.kind = x := by
    simp only [condR, condA, condK, kindA, ht, Bool.and_eq_true, beq_iff_eq] at hc
    exact ByteArray.ext (Array.toList_inj.mp hc.2)
  simp only [plainW, Bool.and_eq_true, Bool.not_eq_true', decide_eq_true_eq] at hx
  have hrx : r.what = x := (kindW_eq (by rw [Go.ByteArray.toList_eq]; exact hx.1.1) hx.1.2).1 (hkd.trans hkx)
  refine ⟨g, cap, hlv, ?_⟩
  rw [← hrx]; exact (h.tokCell hlv hr).1

end Go.Proofs.YtdaneedflpfeaaaGreatDoor
