import Derived.Test.YtdaneedflpfeaaaDoorRefTwin
import Derived.Deep.LoopGhost
namespace Go.Proofs.YtdaneedflpfeaaaDoor
set_option maxRecDepth 100000
open Go.RowKit

/-- Rows at hand: made since the call began. -/
def Held (w0 w : World) (u : Value) (m : List Rw) : Prop := w.ownsRow w0.heap.size 48 3 u m.length (rwsCells m)
/-- A method of the reader on its way: the reader's memory, what has changed since the call began, the rows that it gathers. -/
structure Acc (w0 : World) (b : Nat) (lv : Value) (rt : List RTok) (w : World) (st : RSt) (v : Value) (l : List Rw) : Prop where
  rs : RS b lv rt w st
  gr : w0.grownBy w (some b)
  own : Held w0 w v l
  blt : b < w0.heap.size

section
variable {w0 w w' : World} {b : Nat} {lv : Value} {rt : List RTok} {toks : List Tok} {st st' : RSt} {v u : Value} {l m : List Rw}
theorem Held.nil (w0 w : World) : Held w0 w (.slice none 0 0) [] := World.ownsRow_nil _ _ _ _
theorem Held.kept {row : Option Nat} (h : Held w0 w u m) (hg : w.grownBy w' row) (hr : ∀ k, row = some k → k < w0.heap.size) : Held w0 w' u m := by
  refine World.ownsRow.kept h hg ?_
  cases hv : u.ownBlock with
  | none => exact .inl rfl
  | some g =>
    right
    intro e
    have h1 := World.ownsRow.lt h g hv
    have h2 := hr g e.symm
    omega
theorem Acc.start (h : RS b lv rt w st) : Acc w b lv rt w st (.slice none 0 0) [] := ⟨h, grown_refl _ _, Held.nil _ _, h.lt⟩
theorem Acc.size (h : Acc w0 b lv rt w st v l) : w0.heap.size ≤ w.heap.size := h.gr.size
theorem Acc.none {w' : World} (h : Acc w0 b lv rt w st v l) (hg : w.grownBy w' none) : Acc w0 b lv rt w' st v l :=
  ⟨h.rs.grown hg (fun r e => by cases e), h.gr.trans ⟨hg.os, hg.tape, hg.output, hg.size, fun k hk _ => hg.block k hk (by intro e; cases e)⟩, h.own.kept hg (fun k e => by cases e), h.blt⟩
theorem Acc.alloc (h : Acc w0 b lv rt w st v l) (o : Obj) : Acc w0 b lv rt (w.alloc o) st v l := h.none (World.grownBy_alloc _ _ _)
theorem Acc.step (h : Acc w0 b lv rt w st v l) (hrs : RS b lv rt w' st') (hg : w.grownBy w' (some b)) : Acc w0 b lv rt w' st' v l :=
  ⟨hrs, h.gr.trans hg, h.own.kept hg (fun k e => by cases e; exact h.blt), h.blt⟩
/-- Rows at hand become those that are gathered. -/
theorem Acc.take (h : Acc w0 b lv rt w st v l) (hu : Held w0 w u m) : Acc w0 b lv rt w st u m := ⟨h.rs, h.gr, hu, h.blt⟩
theorem Acc.app {v' : Value} (h : Acc w0 b lv rt w st v l) (ho : Held w0 w' v' m) (hg : w.grownBy w' v.ownBlock) : Acc w0 b lv rt w' st v' m := by
  have hlt := World.ownsRow.lt h.own
  refine ⟨h.rs.grown hg (fun r e => by have := hlt r e; have := h.blt; omega), ?_, ho, h.blt⟩
  exact h.gr.andThen hg (fun j e => .inl (hlt j e).1)

/-- append(x, y...) on the way. -/
theorem append_acc {ops : Array Oper} {rest : List Oper} {o : Oper} {a : Act} {Q : Exit → Act → World → Prop} (A : Acc w0 b lv rt w st v l) (U : Held w0 w u m) (s x : Operand) (hgd : o.guard = none)
    (ho : o.op = .call { callee := .builtin .append, args := #[s, x], argTypes := #[25, 25] }) (hs : a.eval s = v) (hx : a.eval x = u) (hfew : l.length + m.length ≤ 999999)
    (h : ∀ v' w', Acc w0 b lv rt w' st v' (l ++ m) → wpList Tryd.prog ops Q rest (a.put o.dst v') w') : wpList Tryd.prog ops Q (o :: rest) a w :=
  append_rows hgd s x ho _ _ v u l m hs hx A.own U A.size hfew fun v' w' h1 h2 => h v' w' (A.app h1 h2)

theorem is_acc (A : Acc w0 b lv rt w st v l) (ws : List ByteArray) (c : Bool) (hn : ws.length ≤ 10) (hc : isR rt st ws = c) :
    Calls Tryd.prog 14 #[.pointer (some ⟨b, 0, none⟩), .slice (some ⟨w.heap.size, 0, none⟩) ws.length ws.length] (w.alloc (.cells (ws.map Value.string).toArray 9 (0, 0))) fun e w' => e = .returned (.bool c) ∧ Acc w0 b lv rt w' st v l := by
  refine (is_any b lv rt _ st (A.alloc _).rs w.heap.size ws ws.length hn 9 (0, 0) (heap_alloc_new _ _)).mono ?_
  rintro e w' ⟨rfl, n, rfl⟩
  exact ⟨by rw [hc], (A.alloc _).none (grown_drewN _ _ _)⟩
theorem need_acc (R : Rel rt toks) (A : Acc w0 b lv rt w st v l) (ws : List ByteArray) (kd : ByteArray) (hn : ws.length ≤ 10) (hkd : kd ≠ kNone) (hke : kd ≠ kEnd) (hc : isR rt st ws = condR toks st (.is kd.data.toList)) :
    Calls Tryd.prog 34 #[.pointer (some ⟨b, 0, none⟩), .slice (some ⟨w.heap.size, 0, none⟩) ws.length ws.length] (w.alloc (.cells (ws.map Value.string).toArray 9 (0, 0))) fun e w' =>
      ∃ u, e = .returned u ∧ Acc w0 b lv rt w' (needT toks kd st).2 v l ∧ Held w0 w' u (needT toks kd st).1 := by
  have hne := need_eq R A.rs.att ws kd hkd hc
  refine (rneed_any b lv rt _ st (A.alloc _).rs w.heap.size ws ws.length hn 9 (0, 0) (heap_alloc_new _ _) (hne.2 hke)).mono ?_
  rintro e w' ⟨u, rfl, h1, h2, h3⟩
  rw [hne.1] at h1 h3
  exact ⟨u, rfl, (A.alloc _).step h1 h2, ownsRow_base h3 (by have := A.size; simp; omega)⟩
theorem node_acc (A : Acc w0 b lv rt w st v l) (U : Held w0 w u m) (kd : ByteArray) (hf : fineR m = true) :
    Calls Tryd.prog 20 #[.string kd, u] w fun e w' => ∃ u', e = .returned u' ∧ Acc w0 b lv rt w' st v l ∧ Held w0 w' u' (nodeR kd m) := by
  simp only [fineR, Bool.and_eq_true, decide_eq_true_eq, List.all_eq_true] at hf
  refine (node_any kd u w m _ U hf.1 hf.2).mono ?_
  rintro e w' ⟨u', rfl, h1, h2⟩
  exact ⟨u', rfl, A.none h1, ownsRow_base h2 A.size⟩

/-- One word, of our kinds. -/
theorem is_one (R : Rel rt toks) (hk : st.k < rt.length) (x : ByteArray) (hx : plainW x = true) : isR rt st [x] = condR toks st (.is x.data.toList) := by
  rw [isR_plain R hk [x] (by simp [hx])]
  simp [condR, condA, condK]
end

/-- What a method of the reader does. -/
def RDoes (f : Nat) (b : Nat) (lv : Value) (rt : List RTok) (w : World) (r : List Rw) (st' : RSt) : Prop :=
  Calls Tryd.prog f #[.pointer (some ⟨b, 0, none⟩)] w fun e w' => ∃ v, e = .returned v ∧ Acc w b lv rt w' st' v r
/-- The methods of the reader. -/
def G.rnum : G → Nat
  | .function => 15 | .block => 35 | .statement => 49 | .value => 64 | .or => 77 | .and => 85 | .rel => 88 | .sum => 91 | .prod => 94 | .single => 96
  | _ => 0
def G.rmeth : G → Bool
  | .function | .block | .statement | .value | .or | .and | .rel | .sum | .prod | .single => true
  | _ => false
/-- The contracts of all methods at a bound. -/
def RIH (b : Nat) (lv : Value) (rt : List RTok) (toks : List Tok) (n : Nat) : Prop :=
  ∀ g st st' r w, g.rmeth = true → RS b lv rt w st → Rg toks n g st = some (r, st') → RDoes g.rnum b lv rt w r st'
/-- A call of a method on the way. -/
theorem call_acc {w0 w : World} {b : Nat} {lv : Value} {rt : List RTok} {toks : List Tok} {n : Nat} {st st' : RSt} {v : Value} {l r : List Rw} (ih : RIH b lv rt toks n) (A : Acc w0 b lv rt w st v l) (g : G) (hg : g.rmeth = true)
    (h : Rg toks n g st = some (r, st')) : Calls Tryd.prog g.rnum #[.pointer (some ⟨b, 0, none⟩)] w fun e w' => ∃ u, e = .returned u ∧ Acc w0 b lv rt w' st' v l ∧ Held w0 w' u r := by
  refine Calls.mono (ih g st st' r w hg A.rs h) ?_
  rintro e w' ⟨u, rfl, h1⟩
  exact ⟨u, rfl, A.step h1.rs h1.gr, ownsRow_base h1.own A.size⟩

set_option maxHeartbeats 1600000 in
theorem typed_acc {w0 w : World} {b : Nat} {lv : Value} {rt : List RTok} {toks : List Tok} {st : RSt} {v : Value} {l : List Rw} (R : Rel rt toks) (A : Acc w0 b lv rt w st v l) :
    Calls Tryd.prog 33 #[.pointer (some ⟨b, 0, none⟩)] w fun e w' => ∃ u, e = .returned u ∧ Acc w0 b lv rt w' (needT toks kName (needT toks kType st).2).2 v l ∧ Held w0 w' u ((needT toks kType st).1 ++ (needT toks kName (needT toks kType st).2).1) := by
  have HR := hide R
  have HA := hide A
  have H0 := hide (Acc.start A.rs)
  clear R A
  have L1 : (needT toks kType st).1.length ≤ 1 := by unfold needT; split <;> simp
  have L2 : ∀ s, (needT toks kName s).1.length ≤ 1 := by intro s; unfold needT; split <;> simp
  go_enter Tryd.func33, Tryd.ntmps33
  go_wp2_with fail
  refine (need_acc (unhide HR) (unhide H0) tyW kType (by decide) (by decide) (by decide) (isR_ty (unhide HR) (unhide H0).rs.att)).mono ?_
  rintro e w1 ⟨u1, rfl, a1, h1⟩
  have H1 := hide (a1.take h1)
  clear a1 h1
  go_wp2_with fail
  refine (need_acc (unhide HR) (unhide H1) [kName] kName (by decide) (by decide) (by decide) (is_one (unhide HR) (unhide H1).rs.att kName (by decide))).mono ?_
  rintro e w2 ⟨u2, rfl, a2, h2⟩
  have H2 := hide a2
  have K2 := hide h2
  clear a2 h2
  go_wp2_with (first
    | (at_builtin; refine append_acc (unhide H2) (unhide K2) _ _ rfl rfl rfl rfl (by have := L2 (needT toks kType st).2; omega) ?_)
    | fail)
  intro v3 w3 a3
  have H3 := hide a3
  clear a3
  go_wp2_with fail
  go_ret
  exact ⟨_, rfl, (unhide HA).step (unhide H3).rs (unhide H3).gr, ownsRow_base (unhide H3).own (unhide HA).size⟩

end Go.Proofs.YtdaneedflpfeaaaDoor
