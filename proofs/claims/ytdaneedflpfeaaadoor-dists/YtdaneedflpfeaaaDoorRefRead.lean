import Derived.Test.YtdaneedflpfeaaaDoorRefToks2
import Derived.Test.YtdaneedflpfeaaaDoorSem
import Derived.Laws.AppendOwnNone
import Derived.Test.YtdaneedflpfeaaaDoorGrow
namespace Go.Proofs.YtdaneedflpfeaaaDoor
set_option maxRecDepth 100000
open Go.RowKit

/-! ## The document's rows and its reader, in memory -/
/-- A row, as the document has it: Leaf where ours says 'not inner'. -/
def rwCells (r : Rw) : List Value := [.int .i64 r.deep, .bool (!r.inner), .string r.text]
def rwsCells (l : List Rw) : List Value := l.flatMap rwCells
theorem rwsCells_len (l : List Rw) : (rwsCells l).length = l.length * 3 := by
  induction l with
  | nil => rfl
  | cons t l ih => simp only [rwsCells, List.flatMap_cons, List.length_append, List.length_cons] at *; rw [ih]; simp [rwCells]; omega
theorem rwsCells_append (l m : List Rw) : rwsCells (l ++ m) = rwsCells l ++ rwsCells m := by simp [rwsCells]
theorem rwsCells_one (r : Rw) : rwsCells [r] = rwCells r := by simp [rwsCells]
theorem rwsCells_cell (l : List Rw) : ∀ u ∈ rwsCells l, u.oneCell' = true := by
  intro u hu
  obtain ⟨r, _, hr⟩ := List.mem_flatMap.1 hu
  simp [rwCells] at hr
  rcases hr with rfl | rfl | rfl <;> rfl
theorem rwsCells_get (l : List Rw) (i j : Nat) (hj : j < 3) : (rwsCells l)[i * 3 + j]? = l[i]?.bind fun t => (rwCells t)[j]? := by
  induction l generalizing i with
  | nil => simp [rwsCells]
  | cons t l ih =>
    cases i with
    | zero =>
      simp only [rwsCells, List.flatMap_cons, Nat.zero_mul, Nat.zero_add, List.getElem?_cons_zero, Option.bind_some]
      rw [List.getElem?_append_left (by simp [rwCells]; omega)]
    | succ i =>
      have : (i + 1) * 3 + j = 3 + (i * 3 + j) := by omega
      rw [this]
      simp only [rwsCells, List.flatMap_cons, List.getElem?_cons_succ]
      rw [List.getElem?_append_right (by simp [rwCells])]
      simp only [rwCells, List.length_cons, List.length_nil, Nat.add_sub_cancel_left]
      exact ih i
theorem rtoksCells_get (l : List RTok) (i j : Nat) (hj : j < 3) : (rtoksCells l)[i * 3 + j]? = l[i]?.bind fun t => (rtokCells t)[j]? := by
  induction l generalizing i with
  | nil => simp [rtoksCells]
  | cons t l ih =>
    cases i with
    | zero =>
      simp only [rtoksCells, List.flatMap_cons, Nat.zero_mul, Nat.zero_add, List.getElem?_cons_zero, Option.bind_some]
      rw [List.getElem?_append_left (by simp [rtokCells]; omega)]
    | succ i =>
      have : (i + 1) * 3 + j = 3 + (i * 3 + j) := by omega
      rw [this]
      simp only [rtoksCells, List.flatMap_cons, List.getElem?_cons_succ]
      rw [List.getElem?_append_right (by simp [rtokCells])]
      simp only [rtokCells, List.length_cons, List.length_nil, Nat.add_sub_cancel_left]
      exact ih i

/-- The reader's state: the next token; where the first stands that cannot (-1: none yet). -/
structure RSt where
  k : Nat
  bad : Int
/-- The reader's memory: its block b, the tokens' row below it. -/
structure RS (b : Nat) (lv : Value) (toks : List RTok) (w : World) (st : RSt) : Prop where
  blk : w.heap[b]? = some (.cells #[lv, .int .i64 st.k, .int .i64 st.bad] 44 (0, 0))
  tok : w.ownsRow 0 50 3 lv toks.length (rtoksCells toks)
  tat : ∃ g cap, lv = .slice (some ⟨g, 0, none⟩) toks.length cap ∧ g < b
  few : toks.length ≤ 1000
  att : st.k < toks.length
  bd : -1 ≤ st.bad ∧ st.bad ≤ 1000
  ats : ∀ t ∈ toks, t.at_ ≤ 1000

section
variable {b : Nat} {lv : Value} {toks : List RTok} {w : World} {st : RSt}
theorem RS.lt (h : RS b lv toks w st) : b < w.heap.size := by
  rcases Nat.lt_or_ge b w.heap.size with hlt | hge
  · exact hlt
  · have hb := h.blk; rw [Array.getElem?_eq_none hge] at hb; cases hb
theorem RS.grown {w' : World} {row : Option Nat} (h : RS b lv toks w st) (hg : w.grownBy w' row) (hr : ∀ r, row = some r → b < r) : RS b lv toks w' st := by
  obtain ⟨g, cap, rfl, hgb⟩ := h.tat
  refine ⟨?_, h.tok.kept hg ?_, ⟨g, cap, rfl, hgb⟩, h.few, h.att, h.bd, h.ats⟩
  · rw [hg.block b h.lt (fun e => by have := hr b e.symm; omega)]; exact h.blk
  · right
    intro e
    have : row = some g := e.symm
    have := hr g this
    omega
theorem RS.alloc (h : RS b lv toks w st) (o : Obj) : RS b lv toks (w.alloc o) st := h.grown (World.grownBy_alloc w o none) (fun r e => by cases e)
theorem RS.cells (h : RS b lv toks w st) : w.cell? ⟨b, 0, none⟩ = some lv ∧ w.cell? ⟨b, 1, none⟩ = some (.int .i64 st.k) ∧ w.cell? ⟨b, 2, none⟩ = some (.int .i64 st.bad) ∧ (∀ j, w.frozen? ⟨b, j, none⟩ = false) := by
  refine ⟨?_, ?_, ?_, fun j => frozen_of_row w b j _ _ h.blk⟩
  all_goals (rw [cell_of_row w b _ _ _ _ h.blk]; rfl)
theorem RS.tokCell (h : RS b lv toks w st) {g cap : Nat} (hg : lv = .slice (some ⟨g, 0, none⟩) toks.length cap) {i : Nat} {t : RTok} (hi : toks[i]? = some t) :
    w.cell? ⟨g, i * 3, none⟩ = some (.string t.what) ∧ w.cell? ⟨g, i * 3 + 1, none⟩ = some (.int .i64 t.at_) ∧ w.cell? ⟨g, i * 3 + 2, none⟩ = some (.string t.whole) := by
  have hlt : i < toks.length := by
    rcases Nat.lt_or_ge i toks.length with h | h
    · exact h
    · rw [List.getElem?_eq_none h] at hi; cases hi
  have ho := h.tok
  rw [hg] at ho
  refine ⟨?_, ?_, ?_⟩
  · rw [ho.cellAt (i * 3) (by omega)]; have := rtoksCells_get toks i 0 (by omega); rw [Nat.add_zero] at this; rw [this, hi]; rfl
  · rw [ho.cellAt (i * 3 + 1) (by omega), rtoksCells_get toks i 1 (by omega), hi]; rfl
  · rw [ho.cellAt (i * 3 + 2) (by omega), rtoksCells_get toks i 2 (by omega), hi]; rfl
theorem RS.here (h : RS b lv toks w st) : ∃ t, toks[st.k]? = some t := ⟨toks[st.k]'h.att, List.getElem?_eq_getElem h.att⟩
end

theorem RS.step {b : Nat} {lv : Value} {toks : List RTok} {w w' : World} {st st' : RSt} (h : RS b lv toks w st) (hg : w.grownBy w' (some b))
    (hb : w'.heap[b]? = some (.cells #[lv, .int .i64 st'.k, .int .i64 st'.bad] 44 (0, 0))) (hk : st'.k < toks.length) (hbd : -1 ≤ st'.bad ∧ st'.bad ≤ 1000) : RS b lv toks w' st' := by
  obtain ⟨g, cap, rfl, hgb⟩ := h.tat
  refine ⟨hb, h.tok.kept hg (.inr fun e => ?_), ⟨g, cap, rfl, hgb⟩, h.few, hk, hbd, h.ats⟩
  have : g = b := by simpa [Value.ownBlock] using e
  omega

/-- Is the next token one of these? -/
def whatR (toks : List RTok) (st : RSt) : ByteArray := match toks[st.k]? with | some t => t.what | none => kNone
def isR (toks : List RTok) (st : RSt) (ws : List ByteArray) : Bool := decide (st.bad < 0) && ws.any fun x => (whatR toks st).toList == x.toList
theorem isR_take (toks : List RTok) (st : RSt) (ws : List ByteArray) (j : Nat) (hj : j < ws.length) (hb : st.bad < 0) :
    isR toks st (ws.take (j + 1)) = (isR toks st (ws.take j) || (whatR toks st).toList == (ws[j]'hj).toList) := by
  unfold isR
  rw [List.take_succ_eq_append_getElem hj, List.any_append, show decide (st.bad < 0) = true from by simp [hb]]
  simp only [Bool.true_and, List.any_cons, List.any_nil, Bool.or_false]
theorem strs_cell {w : World} {B : Nat} {ws : List ByteArray} {T : TypeId} {fr : Nat × Nat} (hB : w.heap[B]? = some (.cells (ws.map Value.string).toArray T fr)) (j : Nat) (hj : j < ws.length) :
    w.cell? ⟨B, j, none⟩ = some (.string (ws[j]'hj)) := by
  rw [cell_of_row w B _ _ _ _ hB]; simp [hj]

set_option maxHeartbeats 1600000 in
theorem is_any (b : Nat) (lv : Value) (toks : List RTok) (w : World) (st : RSt) (h : RS b lv toks w st) (B : Nat) (ws : List ByteArray) (c : Nat) (hn : ws.length ≤ 10) (T : TypeId) (fr : Nat × Nat)
    (hB : w.heap[B]? = some (.cells (ws.map Value.string).toArray T fr)) :
    Calls Tryd.prog 14 #[.pointer (some ⟨b, 0, none⟩), .slice (some ⟨B, 0, none⟩) ws.length c] w fun e w' => e = .returned (.bool (isR toks st ws)) ∧ ∃ n, w' = w.drewN n := by
  obtain ⟨c0, c1, c2, hf⟩ := h.cells
  obtain ⟨g, cap, hlv, hgb⟩ := h.tat
  obtain ⟨t, ht⟩ := h.here
  obtain ⟨t0, t1, t2⟩ := h.tokCell hlv ht
  subst hlv
  have hatt := h.att
  have hlt' : (st.k : Int) < (toks.length : Int) := by omega
  have hfew := h.few
  have hbd := h.bd
  have HW : Hid (whatR toks st = t.what) := by show whatR toks st = _; simp [whatR, ht]
  have HC := hide (fun j hj => strs_cell hB j hj)
  clear ht h hf hB
  generalize st.k = k at *
  go_enter Tryd.func14, Tryd.ntmps14
  go_wp2_with fail
  go_loopw [6, 9] (fun _ i wr => ∃ (j n : Nat), j ≤ ws.length ∧ i = .int .i64 j ∧ Hid (isR toks st (ws.take j) = false) ∧ wr = w.drewN n) (fun _ i _ => ws.length - (intOf i).toNat)
  case atStart => exact ⟨0, 0, by omega, rfl, by show isR toks st (ws.take 0) = false; simp [isR], rfl⟩
  case round =>
    obtain ⟨j, n, hj, rfl, HJ, rfl⟩ := hrel
    by_cases hjl : j < ws.length
    · have hcj := unhide HC j hjl
      by_cases hb : st.bad < 0
      · have hbb : decide (st.bad < 0) = true := by simp [hb]
        have HS := hide (isR_take toks st ws j hjl hb)
        cases he : (t.what.toList == (ws[j]'hjl).toList) with
        | true =>
          have HR : Hid (isR toks st ws = true) := by
            show _ = true
            have hany : (ws.any fun x => (whatR toks st).toList == x.toList) = true := List.any_eq_true.2 ⟨ws[j], List.getElem_mem hjl, by rw [unhide HW]; exact he⟩
            simp [isR, hbb, hany]
          go_wp2_with fail
          go_quiet (fail)
          go_wp2_with fail
          go_ret
          exact ⟨ret_bool (unhide HR).symm, _, World.drewN_drewN _ _ _⟩
        | false =>
          have HJ2 : Hid (isR toks st (ws.take (j + 1)) = false) := by show _ = false; rw [unhide HS, unhide HJ, unhide HW, he]; rfl
          go_wp2_with fail
          go_quiet (fail)
          go_wp2_with fail
          go_roundw
          case rel => exact ⟨j + 1, _, by omega, by go_num, HJ2, rfl⟩
          case measure => simp [intOf]; omega
      · have hbb : decide (st.bad < 0) = false := by simp [hb]
        have HJ2 : Hid (isR toks st (ws.take (j + 1)) = false) := by show _ = false; simp [isR, hbb]
        go_wp2_with fail
        go_quiet (fail)
        go_wp2_with fail
        go_roundw
        case rel => exact ⟨j + 1, _, by omega, by go_num, HJ2, rfl⟩
        case measure => simp [intOf]; omega
    · have HR : Hid (isR toks st ws = false) := by show _ = false; rw [← unhide HJ, List.take_of_length_le (by omega)]
      go_wp2_with fail
      go_ret
      exact ⟨ret_bool (unhide HR).symm, _, rfl⟩

/-- The first place that cannot be. -/
def failR (toks : List RTok) (st : RSt) : RSt := if st.bad < 0 then { st with bad := match toks[st.k]? with | some t => t.at_ | none => 0 } else st
set_option maxHeartbeats 1600000 in
theorem fail_any (b : Nat) (lv : Value) (toks : List RTok) (w : World) (st : RSt) (h : RS b lv toks w st) :
    Calls Tryd.prog 48 #[.pointer (some ⟨b, 0, none⟩)] w fun e w' => e = .returned (.tuple #[]) ∧ RS b lv toks w' (failR toks st) ∧ w.grownBy w' (some b) := by
  have H := hide h
  obtain ⟨c0, c1, c2, hf⟩ := h.cells
  obtain ⟨g, cap, hlv, hgb⟩ := h.tat
  obtain ⟨t, ht⟩ := h.here
  obtain ⟨t0, t1, t2⟩ := h.tokCell hlv ht
  have hatt := h.att
  have hlt' : (st.k : Int) < (toks.length : Int) := by omega
  have hfew := h.few
  have hbd := h.bd
  have hblk := h.blk
  have hat := h.ats t (List.mem_of_getElem? ht)
  have HT := hide ht
  have HL := hide hlv
  subst hlv
  clear ht h
  by_cases hb : st.bad < 0
  · have hbb : decide (st.bad < 0) = true := by simp [hb]
    have HF : Hid (failR toks st = ⟨st.k, t.at_⟩) := by show _ = _; simp [failR, hb, unhide HT]
    go_enter Tryd.func48, Tryd.ntmps48
    go_wp2_with fail
    go_region
    all_goals go_wp2_with fail
    all_goals go_end0
    all_goals
      rw [unhide HF]
      have hg : w.grownBy (w.setCell ⟨b, 2, none⟩ (.int .i64 t.at_)) (some b) := grown_set _ _ _ _
      exact ⟨rfl, (unhide H).step (hg.trans (grown_drew _ _)) (st' := ⟨st.k, t.at_⟩) (heap_setCell_same w b 2 _ _ _ hblk) hatt ⟨by show -1 ≤ (t.at_ : Int); omega, by show (t.at_ : Int) ≤ 1000; omega⟩, hg.trans (grown_drew _ _)⟩
  · have hbb : decide (st.bad < 0) = false := by simp [hb]
    have HF : Hid (failR toks st = st) := by show _ = _; simp [failR, hb]
    go_enter Tryd.func48, Tryd.ntmps48
    go_wp2_with fail
    go_end0
    rw [unhide HF]
    exact ⟨rfl, unhide H, ⟨rfl, rfl, rfl, Nat.le_refl _, fun _ _ _ => rfl⟩⟩

def wholeR (toks : List RTok) (st : RSt) : ByteArray := match toks[st.k]? with | some t => t.whole | none => emptyB
def needR (toks : List RTok) (ws : List ByteArray) (st : RSt) : List Rw × RSt := if isR toks st ws then ([⟨0, false, wholeR toks st⟩], ⟨st.k + 1, st.bad⟩) else ([], failR toks st)
set_option maxHeartbeats 1600000 in
theorem rneed_any (b : Nat) (lv : Value) (toks : List RTok) (w : World) (st : RSt) (h : RS b lv toks w st) (B : Nat) (ws : List ByteArray) (c : Nat) (hn : ws.length ≤ 10) (T : TypeId) (fr : Nat × Nat)
    (hB : w.heap[B]? = some (.cells (ws.map Value.string).toArray T fr)) (hnext : isR toks st ws = true → st.k + 1 < toks.length) :
    Calls Tryd.prog 34 #[.pointer (some ⟨b, 0, none⟩), .slice (some ⟨B, 0, none⟩) ws.length c] w fun e w' => ∃ v, e = .returned v ∧ RS b lv toks w' (needR toks ws st).2 ∧ w.grownBy w' (some b) ∧
      w'.ownsRow w.heap.size 48 3 v (needR toks ws st).1.length (rwsCells (needR toks ws st).1) := by
  have HI := hide (is_any b lv toks w st h B ws c hn T fr hB)
  have H := hide h
  cases hq : isR toks st ws with
  | false =>
    have HF : Hid (needR toks ws st = ([], failR toks st)) := by show _ = _; simp [needR, hq]
    rw [hq] at HI
    clear h hnext hq
    go_enter Tryd.func34, Tryd.ntmps34
    go_wp2_with fail
    refine (unhide HI).mono ?_
    rintro e w1 ⟨rfl, m, rfl⟩
    have H1 := hide ((unhide H).grown (grown_drewN w m none) (fun r e => by cases e))
    go_wp2_with fail
    refine (fail_any b lv toks _ st (unhide H1)).mono ?_
    rintro e w2 ⟨rfl, h2, hg2⟩
    have H2 := hide h2
    have HG2 := hide ((grown_drewN w m (some b)).trans hg2)
    clear h2 hg2
    go_wp2_with fail
    go_ret
    rw [unhide HF]
    exact ⟨_, rfl, unhide H2, unhide HG2, World.ownsRow_nil _ _ _ _⟩
  | true =>
    obtain ⟨c0, c1, c2, hf⟩ := h.cells
    obtain ⟨g, cap, hlv, hgb⟩ := h.tat
    obtain ⟨t, ht⟩ := h.here
    obtain ⟨t0, t1, t2⟩ := h.tokCell hlv ht
    have hatt := h.att
    have hfew := h.few
    have hnx := hnext hq
    have HF : Hid (needR toks ws st = ([⟨0, false, t.whole⟩], ⟨st.k + 1, st.bad⟩)) := by show _ = _; simp [needR, hq, wholeR, ht]
    rw [hq] at HI
    have HBK := hide h.blk
    have HT := hide ht
    subst hlv
    clear h hnext hq ht hB
    go_enter Tryd.func34, Tryd.ntmps34
    go_wp2_with fail
    refine (unhide HI).mono ?_
    rintro e w1 ⟨rfl, m, rfl⟩
    go_wp2_with fail
    have HG2 : Hid (w.grownBy ((w.drewN m).setCell ⟨b, 1, none⟩ (.int .i64 (st.k + 1))) (some b)) := (grown_drewN w m (some b)).trans (grown_set _ _ _ _)
    have H2 : Hid (RS b (.slice (some ⟨g, 0, none⟩) toks.length cap) toks ((w.drewN m).setCell ⟨b, 1, none⟩ (.int .i64 (st.k + 1))) ⟨st.k + 1, st.bad⟩) :=
      (unhide H).step (unhide HG2) (heap_setCell_same (w.drewN m) b 1 _ _ _ (unhide HBK)) hnx (unhide H).bd
    generalize (w.drewN m).setCell ⟨b, 1, none⟩ (.int .i64 (st.k + 1)) = W at *
    obtain ⟨d0, d1, d2, df⟩ := (unhide H2).cells
    obtain ⟨e0, e1, e2⟩ := (unhide H2).tokCell rfl (unhide HT)
    have hlt' : (st.k : Int) < (toks.length : Int) := by omega
    have hsz : w.heap.size ≤ W.heap.size := (unhide HG2).size
    go_region
    all_goals go_wp2_with fail
    all_goals go_ret
    all_goals
      rw [unhide HF]
      refine ⟨_, rfl, ?_, ?_, ?_⟩
      · exact ((unhide H2).alloc _).grown (grown_drew _ none) (fun r e => by cases e)
      · exact ((unhide HG2).trans (World.grownBy_alloc _ _ _)).trans (grown_drew _ _)
      · exact (World.ownsRow_lit (base := w.heap.size) (size := 3) W #[.int .i64 0, .bool true, .string t.whole] 1 hsz (by decide) rfl).kept (grown_drew _ none) (.inr (by intro e; cases e))

theorem Tryd.infoRow : (Tryd.prog.info? 48).map (fun i => (i.zero, i.size, i.bytes)) = some (some (.agg #[.int .i64 0, .bool false, .string ⟨#[]⟩]), 3, 32) := by kernel_rfl
theorem rw_news {w : World} {B : Nat} {T : TypeId} (d : Int) (k : Bool) (x : ByteArray) (hb : w.heap[B]? = some (.cells #[.int .i64 d, .bool k, .string x] T (0, 0))) :
    ∀ j u, [Value.int .i64 d, .bool k, .string x][j]? = some u → w.cell? ((⟨B, 0, none⟩ : Addr).add j) = some u := World.news_of_block hb
theorem rw_one (d : Int) (k : Bool) (x : ByteArray) : ∀ u ∈ [Value.int .i64 d, .bool k, .string x], u.oneCell' = true := by
  intro u hu; simp at hu; rcases hu with rfl | rfl | rfl <;> rfl

/-- append(x, y...) of rows that are both at hand. -/
theorem append_rows {w : World} {ops : Array Oper} {rest : List Oper} {o : Oper} {a : Act} {Q : Exit → Act → World → Prop} (hgd : o.guard = none) (s x : Operand)
    (ho : o.op = .call { callee := .builtin .append, args := #[s, x], argTypes := #[25, 25] }) (base base2 : Nat) (v u : Value) (l m : List Rw)
    (hs : a.eval s = v) (hx : a.eval x = u) (hown : w.ownsRow base 48 3 v l.length (rwsCells l)) (hsrc : w.ownsRow base2 48 3 u m.length (rwsCells m)) (hbase : base ≤ w.heap.size) (hfew : l.length + m.length ≤ 999999)
    (h : ∀ v' w', w'.ownsRow base 48 3 v' (l ++ m).length (rwsCells (l ++ m)) → w.grownBy w' v.ownBlock → wpList Tryd.prog ops Q rest (a.put o.dst v') w') : wpList Tryd.prog ops Q (o :: rest) a w := by
  obtain ⟨i0, hi, hz0, hz1, hz2⟩ := info_parts Tryd.infoRow
  rcases hsrc.2 with ⟨rfl, hm⟩ | ⟨g, cap, cur, rfl, _⟩
  · have hm0 : m = [] := List.length_eq_zero_iff.mp hm
    subst hm0
    refine wpList_append_own_none hgd s x 25 ho base 48 i0 3 Tryd.underlying25 hi v l.length (rwsCells l) hs hown hx ?_
    refine h v w ?_ (grown_refl _ _)
    rw [List.append_nil]; exact hown
  · refine wpList_append_own w hgd s x 25 ho base 48 i0 (.agg #[.int .i64 0, .bool false, .string ⟨#[]⟩]) 3 32 Tryd.underlying25 hi hz0 hz1 hz2 rfl (by decide) v l.length (rwsCells l) hs hown ⟨g, 0, none⟩ m.length cap (rwsCells m) hx (rwsCells_len m) (hsrc.cells rfl) (rwsCells_cell m) (by unfold maxLen; omega) (by omega) hbase ?_
    intro v' w' h1 h2 _
    refine h v' w' ?_ h2
    rw [List.length_append, rwsCells_append]; exact h1

end Go.Proofs.YtdaneedflpfeaaaDoor
