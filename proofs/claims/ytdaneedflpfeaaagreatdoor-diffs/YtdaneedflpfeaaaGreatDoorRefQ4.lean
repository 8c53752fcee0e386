import Derived.Test.YtdaneedflpfeaaaGreatDoorRefQ3
import Derived.Test.YtdaneedflpfeaaaGreatDoorRefAcc
namespace Go.Proofs.YtdaneedflpfeaaaGreatDoor
set_option maxRecDepth 100000
open Go.RowKit

theorem rwsCells_split (l m : List Rw) : rwsCells (l ++ m) = rwsCells l ++ rwsCells m := by simp [rwsCells]
theorem RA.drop {w : World} {g off : Nat} {l : List Rw} (h : RA w g off l) (k : Nat) (hk : k ≤ l.length) : RA w g (off + k * 3) (l.drop k) :=
  ⟨h.lt, fun j u hu => by
    have := h.at_ (k * 3 + j) u (by
      rw [← List.take_append_drop k l, rwsCells_split, List.getElem?_append_right (by rw [rwsCells_len, List.length_take]; omega), rwsCells_len, List.length_take, show k * 3 + j - min k l.length * 3 = j by rw [Nat.min_eq_left hk]; omega]
      exact hu)
    rw [← Nat.add_assoc] at this
    exact this⟩
theorem RA.take {w : World} {g off : Nat} {l : List Rw} (h : RA w g off l) (k : Nat) : RA w g off (l.take k) :=
  ⟨h.lt, fun j u hu => h.at_ j u (by
    have hj : j < (rwsCells (l.take k)).length := by
      rcases Nat.lt_or_ge j (rwsCells (l.take k)).length with q | q
      · exact q
      · rw [List.getElem?_eq_none q] at hu; cases hu
    have e : rwsCells l = rwsCells (l.take k) ++ rwsCells (l.drop k) := by rw [← rwsCells_split, List.take_append_drop]
    rw [e, List.getElem?_append_left hj]
    exact hu)⟩
theorem RA.grown {w w' : World} {row : Option Nat} {g off : Nat} {l : List Rw} (h : RA w g off l) (hg : w.grownBy w' row) (hr : row ≠ some g) : RA w' g off l := h.heap (hg.block g h.lt (fun e => hr e.symm))
theorem RA.nil {w : World} {g : Nat} (h : g < w.heap.size) (off : Nat) : RA w g off [] := ⟨h, fun j u hu => by simp [rwsCells] at hu⟩
def SrcR (w : World) (u : Value) (m : List Rw) : Prop := (u = .slice none 0 0 ∧ m = []) ∨ ∃ g off cap, u = .slice (some ⟨g, off, none⟩) m.length cap ∧ RA w g off m
theorem radd_off (g off j : Nat) : (⟨g, off, none⟩ : Addr).add j = ⟨g, off + j, none⟩ := by unfold Addr.add; split <;> simp_all
/-- append(x, y...) of rows. -/
theorem append_rws {w : World} {ops : Array Oper} {rest : List Oper} {o : Oper} {a : Act} {Q : Exit → Act → World → Prop} (hgd : o.guard = none) (s x : Operand)
    (ho : o.op = .call { callee := .builtin .append, args := #[s, x], argTypes := #[25, 25] }) (base : Nat) (v u : Value) (l m : List Rw)
    (hs : a.eval s = v) (hx : a.eval x = u) (hown : w.ownsRow base 51 3 v l.length (rwsCells l)) (hsrc : SrcR w u m) (hbase : base ≤ w.heap.size) (hfew : l.length + m.length ≤ 9999999)
    (h : ∀ F v' w', F = l ++ m → w'.ownsRow base 51 3 v' F.length (rwsCells F) → w.grownBy w' v.ownBlock → wpList Tryz.prog ops Q rest (a.put o.dst v') w') : wpList Tryz.prog ops Q (o :: rest) a w := by
  obtain ⟨i0, hi, hz0, hz1, hz2⟩ := info_parts Tryz.infoRow
  rcases hsrc with ⟨rfl, rfl⟩ | ⟨g, off, cap, rfl, hna⟩
  · refine wpList_append_own_none hgd s x 25 ho base 51 i0 3 Tryz.underlying25 hi v l.length (rwsCells l) hs hown hx ?_
    refine h _ v w rfl ?_ (grown_refl _ _)
    rw [List.append_nil]; exact hown
  · refine wpList_append_own w hgd s x 25 ho base 51 i0 (.agg #[.int .i64 0, .bool false, .string ⟨#[]⟩]) 3 32 Tryz.underlying25 hi hz0 hz1 hz2 rfl (by decide) v l.length (rwsCells l) hs hown ⟨g, off, none⟩ m.length cap (rwsCells m) hx (rwsCells_len m) (fun j u hu => by rw [radd_off]; exact hna.at_ j u hu) (rwsCells_cell m) (by unfold maxLen; omega) (by omega) hbase ?_
    intro v' w' h1 h2 _
    refine h _ v' w' rfl ?_ h2
    rw [List.length_append, rwsCells_split]; exact h1
theorem RA.partI {w : World} {g : Nat} {l : List Rw} (h : RA w g 0 l) {a cap c : Nat} (ha : a ≤ l.length) (hcap : l.length ≤ cap) : SrcR w (.slice (if cap = a then some ⟨g, 0, none⟩ else some ⟨g, a * 3, none⟩) (l.length - a) c) (l.drop a) := by
  split
  · rename_i e
    refine .inr ⟨g, 0, c, by rw [List.length_drop], ?_⟩
    rw [List.drop_of_length_le (by omega)]; exact RA.nil h.lt 0
  · refine .inr ⟨g, a * 3, c, by rw [List.length_drop], ?_⟩
    have := h.drop a ha; rw [Nat.zero_add] at this; exact this
theorem RA.pre {w : World} {g : Nat} {l : List Rw} (h : RA w g 0 l) {a c : Nat} (ha : a ≤ l.length) : SrcR w (.slice (some ⟨g, 0, none⟩) a c) (l.take a) :=
  .inr ⟨g, 0, c, by rw [List.length_take, Nat.min_eq_left ha], h.take a⟩
theorem below_appR {w0 w w' : World} {base : Nat} {v : Value} {n : Nat} {xs : List Value} (hb : Below w0.heap.size w0 w) (hown : w.ownsRow base 51 3 v n xs) (hbase : w0.heap.size ≤ base) (hg : w.grownBy w' v.ownBlock) : Below w0.heap.size w0 w' :=
  hb.grown hg hb.size (fun j hj => by have := (hown.lt j hj).1; omega)

theorem own_capR {w : World} {base g cap n : Nat} {xs : List Value} (h : w.ownsRow base 51 3 (.slice (some ⟨g, 0, none⟩) n cap) n xs) : n ≤ cap ∧ cap ≤ maxLen := by
  rcases h.2 with ⟨h0, _⟩ | ⟨g', cap', cur, hv, _, hb, h1, h2, _⟩
  · cases h0
  · simp only [Value.slice.injEq, Option.some.injEq, Addr.mk.injEq, and_true, true_and] at hv
    obtain ⟨_, rfl⟩ := hv
    exact ⟨h1, h2⟩
def pastU (l : List Rw) (limit : Nat) : Nat → Nat → Option Nat
  | 0, a => some a
  | n + 1, a => if limit ≤ a then none else pastU l limit n (a + (1 + undR l a))
theorem pastU_pos {l : List Rw} {limit j a : Nat} (hj : 0 < j) : pastU l limit j a = if limit ≤ a then none else pastU l limit (j - 1) (a + (1 + undR l a)) := by
  obtain ⟨i, rfl⟩ : ∃ i, j = i + 1 := ⟨j - 1, by omega⟩
  rfl
theorem pastU_le {l : List Rw} {limit : Nat} (hl : limit ≤ l.length) (n a : Nat) (ha : a ≤ l.length) : ∀ b, pastU l limit n a = some b → a ≤ b ∧ b ≤ l.length := by
  induction n generalizing a with
  | zero => intro b h; cases h; exact ⟨Nat.le_refl _, ha⟩
  | succ n ih =>
    intro b h
    rw [pastU] at h
    split at h
    · cases h
    · have hu := undR_le (l := l) (k := a) (by omega)
      have := ih (a + (1 + undR l a)) (by omega) b h
      omega
/-- The deepness of what is put below row p - 1 (0: the root), and where that row's children end; none: it is a leaf. -/
def parR (l : List Rw) : Nat → Option (Nat × Nat)
  | 0 => some (0, l.length)
  | q + 1 => match l[q]? with | some x => if x.inner then some (x.deep + 1, q + 1 + undR l q) else none | none => none
def insR (l : List Rw) (p k n : Nat) (b : Bool) (t : ByteArray) : Option (List Rw) :=
  match parR l p with
  | none => none
  | some (d, e) => if b = false ∧ 0 < n then none else match pastU l e k p with
    | none => none
    | some f => match pastU l e n f with
      | none => none
      | some z => some (l.take f ++ [⟨d, b, t⟩] ++ ((l.drop f).take (z - f)).map Rw.up ++ l.drop z)
theorem parR_le {l : List Rw} {p d e : Nat} (hp : p ≤ l.length) (h : parR l p = some (d, e)) : p ≤ e ∧ e ≤ l.length := by
  cases p with
  | zero => cases h; exact ⟨Nat.zero_le _, Nat.le_refl _⟩
  | succ q =>
    simp only [parR] at h
    split at h
    · split at h
      · cases h; have := undR_le (l := l) (k := q) (by omega); omega
      · cases h
    · cases h
/-- What a step's function of the document answers. -/
def RowsR (w : World) (o : Option (List Rw)) (e : Ending) (w' : World) : Prop := Below w.heap.size w w' ∧ match o with
  | some m => ∃ g cap, e = .returned (.tuple #[.slice (some ⟨g, 0, none⟩) m.length cap, .bool true]) ∧ RA w' g 0 m ∧ m.length ≤ cap ∧ cap ≤ maxLen
  | none => e = .returned (.tuple #[.slice none 0 0, .bool false])

set_option maxHeartbeats 6400000 in
/-- From where the new row is made on. -/
theorem inserted_any (l : List Rw) (p k n g cap : Nat) (b : Bool) (t : ByteArray) (w : World) (hl : l.length ≤ 1000000) (hcap : l.length ≤ cap) (hcm : cap ≤ maxLen) (hp : p ≤ l.length) (hk : k ≤ 1000000) (hnn : n ≤ 1000000) (hd : ∀ x ∈ l, x.deep ≤ 1000000) (hn : RA w g 0 l) :
    Calls Tryz.prog 46 #[.slice (some ⟨g, 0, none⟩) l.length cap, .int .i64 ((p : Int) - 1), .int .i64 (k : Int), .int .i64 (n : Int), .agg #[.int .i64 0, .bool (!b), .string t]] w fun e w' => RowsR w (insR l p k n b t) e w' := by
  obtain ⟨i0, hi0, hz0, hz1, hz2⟩ := info_parts Tryz.infoRow
  have hgl := hn.lt
  cases hpr : parR l p with
  | none =>
    have HR : Hid (insR l p k n b t = none) := by show _ = _; rw [insR, hpr]
    cases p with
    | zero => cases hpr
    | succ q =>
      have hq : q < l.length := by omega
      simp only [parR, List.getElem?_eq_getElem hq] at hpr
      have hin : (l[q]).inner = false := by
        cases h : (l[q]).inner with
        | false => rfl
        | true => rw [h] at hpr; cases hpr
      obtain ⟨x0, x1, x2⟩ := hn.cell0 (List.getElem?_eq_getElem hq)
      rw [hin] at x1
      have e1 : (((q + 1 : Nat) : Int) - 1) = (q : Int) := by omega
      rw [e1]
      clear hpr hin e1
      generalize (l[q]'hq) = x at *
      go_enter Tryz.func46, Tryz.ntmps46
      go_wp2_with fail
      go_ret2
      rw [unhide HR]
      exact ⟨(Below.refl _ _).alloc (Nat.le_refl _) _, rfl⟩
  | some de =>
    obtain ⟨d, e⟩ := de
    have hpe := parR_le hp hpr
    have HI : Hid (insR l p k n b t = if b = false ∧ 0 < n then none else match pastU l e k p with
      | none => none
      | some f => match pastU l e n f with
        | none => none
        | some z => some (l.take f ++ [⟨d, b, t⟩] ++ ((l.drop f).take (z - f)).map Rw.up ++ l.drop z)) := by show _ = _; simp only [insR, hpr]
    have hcm2 : (cap : Int) ≤ 9223372036854775807 := by unfold maxLen at hcm; omega
    cases p with
    | zero =>
      cases hpr
      have e1 : (((0 : Nat) : Int) - 1) = -1 := by omega
      rw [e1]
      clear e1
      cases b with
      | true =>
        have HI2 := hide ((unhide HI).trans (if_neg (by simp)))
        clear HI
        go_enter Tryz.func46, Tryz.ntmps46
        go_wp2_with fail
        have hn1 : RA (w.alloc (.cells #[.int .i64 0, .bool false, .string t] 51 (0, 0))) g 0 l := hn.heap (heap_alloc_old _ _ hgl)
        have hkb := heap_alloc_new w (.cells #[.int .i64 0, .bool false, .string t] 51 (0, 0))
        have hB1 : Below w.heap.size w (w.alloc (.cells #[.int .i64 0, .bool false, .string t] 51 (0, 0))) := (Below.refl _ _).alloc (Nat.le_refl _) _
        have hlt1 : w.heap.size < (w.alloc (.cells #[.int .i64 0, .bool false, .string t] 51 (0, 0))).heap.size := by simp
        generalize w.alloc (.cells #[.int .i64 0, .bool false, .string t] 51 (0, 0)) = w1 at *
        have HKB := hide hkb
        have HN1 := hide hn1
        have HB1 := hide hB1
        have hg1 : g < w1.heap.size := hn1.lt
        clear hkb hn1 hB1
        go_loopw [2, 10, 11, 13] (fun v2 _ _ v13 wr => ∃ j a : Nat, j ≤ k ∧ a ≤ l.length ∧ v2 = .int .i64 j ∧ v13 = .int .i64 a ∧ Hid (pastU l l.length j a = pastU l l.length k 0) ∧ Below w1.heap.size w1 wr) (fun v2 _ _ _ _ => (intOf v2).toNat)
        case atStart => exact ⟨k, 0, Nat.le_refl _, hp, rfl, by go_num, rfl, Below.refl _ _⟩
        case round =>
          obtain ⟨j, a, hj, ha, rfl, rfl, HE, hB2⟩ := hrel
          have HB2 := hide hB2
          have hsz2 := hB2.size
          have HN2 := hide ((unhide HN1).below hB2 hg1)
          clear hB2
          by_cases hj0 : 0 < j
          · have HP : Hid (pastU l l.length j a = if l.length ≤ a then none else pastU l l.length (j - 1) (a + (1 + undR l a))) := pastU_pos hj0
            by_cases hea : l.length ≤ a
            · have HR : Hid (insR l 0 k n true t = none) := by show _ = _; rw [unhide HI2, ← unhide HE, unhide HP, if_pos hea]
              clear HE HP
              go_wp2_with fail
              go_ret2
              rw [unhide HR]
              exact ⟨(unhide HB1).trans ((unhide HB2).mono (by omega)), rfl⟩
            · have HE2 : Hid (pastU l l.length (j - 1) (a + (1 + undR l a)) = pastU l l.length k 0) := by show _ = _; rw [← unhide HE, unhide HP, if_neg hea]
              have hu := undR_le (l := l) (k := a) (by omega)
              have HU := hide (fun wx h => under_any l a g cap wx hl (by omega) h)
              clear HE HP
              generalize undR l a = u at *
              go_wp2_with fail
              refine (unhide HU _ (unhide HN2)).mono ?_
              rintro e' w3 ⟨rfl, hB3⟩
              have HB3 : Hid (Below w1.heap.size w1 w3) := (unhide HB2).trans (hB3.mono hsz2)
              clear hB3
              go_wp2_with fail
              go_roundw
              case rel => exact ⟨j - 1, a + (1 + u), by omega, by omega, by go_num, by go_num, HE2, unhide HB3⟩
              case measure => simp [intOf]; omega
          · have HF : Hid (pastU l l.length k 0 = some a) := by show _ = _; rw [← unhide HE, show j = 0 by omega]; rfl
            clear HE
            go_wp2_with fail
            go_loopw [3, 10, 11, 14] (fun v3 _ _ v14 wr2 => ∃ j z : Nat, j ≤ n ∧ z ≤ l.length ∧ a ≤ z ∧ v3 = .int .i64 j ∧ v14 = .int .i64 z ∧ Hid (pastU l l.length j z = pastU l l.length n a) ∧ Below w1.heap.size w1 wr2) (fun v3 _ _ _ _ => (intOf v3).toNat)
            case atStart => exact ⟨n, a, Nat.le_refl _, ha, Nat.le_refl _, rfl, rfl, rfl, unhide HB2⟩
            case round =>
              clear HN2 HB2 hsz2
              obtain ⟨j, z, hj, hz, haz, rfl, rfl, HE, hB2⟩ := hrel
              have HB2 := hide hB2
              have hsz2 := hB2.size
              have HN2 := hide ((unhide HN1).below hB2 hg1)
              have HKB2 := hide ((hB2.block _ hlt1).trans (unhide HKB))
              clear hB2
              by_cases hj1 : 0 < j
              · have HP : Hid (pastU l l.length j z = if l.length ≤ z then none else pastU l l.length (j - 1) (z + (1 + undR l z))) := pastU_pos hj1
                by_cases hea : l.length ≤ z
                · have HR : Hid (insR l 0 k n true t = none) := by show _ = _; rw [unhide HI2, unhide HF]; simp only []; rw [← unhide HE, unhide HP, if_pos hea]
                  clear HE HP HF
                  go_wp2_with fail
                  go_ret2
                  rw [unhide HR]
                  exact ⟨(unhide HB1).trans ((unhide HB2).mono (by omega)), rfl⟩
                · have HE2 : Hid (pastU l l.length (j - 1) (z + (1 + undR l z)) = pastU l l.length n a) := by show _ = _; rw [← unhide HE, unhide HP, if_neg hea]
                  have hu := undR_le (l := l) (k := z) (by omega)
                  have HU := hide (fun wx h => under_any l z g cap wx hl (by omega) h)
                  clear HE HP
                  generalize undR l z = u at *
                  go_wp2_with fail
                  refine (unhide HU _ (unhide HN2)).mono ?_
                  rintro e' w3 ⟨rfl, hB3⟩
                  have HB3 : Hid (Below w1.heap.size w1 w3) := (unhide HB2).trans (hB3.mono hsz2)
                  clear hB3
                  go_wp2_with fail
                  go_roundw
                  case rel => exact ⟨j - 1, z + (1 + u), by omega, by omega, by omega, by go_num, by go_num, HE2, unhide HB3⟩
                  case measure => simp [intOf]; omega
              · have HR : Hid (insR l 0 k n true t = some (l.take a ++ [⟨0, true, t⟩] ++ ((l.drop a).take (z - a)).map Rw.up ++ l.drop z)) := by
                  show _ = _
                  have hzz : pastU l l.length n a = some z := by rw [← unhide HE, show j = 0 by omega]; rfl
                  rw [unhide HI2, unhide HF]; simp only []; rw [hzz]
                have HB4 : Hid (Below w.heap.size w wr) := (unhide HB1).trans ((unhide HB2).mono (by omega))
                have hszw : w.heap.size < wr.heap.size := by omega
                obtain ⟨B0, hb0, hb1⟩ : ∃ B0, B0 ≤ wr.heap.size ∧ wr.heap.size ≤ B0 := ⟨wr.heap.size, Nat.le_refl _, Nat.le_refl _⟩
                obtain ⟨c0, c1, c2, c3⟩ := rw_cells3 (unhide HKB2)
                have hlA : (l.take a).length ≤ 1000000 := by rw [List.length_take]; omega
                have hlE : (l.drop z).length ≤ 1000000 := by rw [List.length_drop]; omega
                have hlM : ∀ i, (((l.drop a).take i).map Rw.up).length ≤ 1000000 := fun i => by rw [List.length_map, List.length_take, List.length_drop]; omega
                clear HE HF HB2
                go_wp2_with (first | (at_builtin; refine append_rws rfl _ _ rfl B0 (.slice none 0 0) (.slice (some ⟨g, 0, none⟩) a cap) [] (l.take a) rfl rfl (World.ownsRow_nil _ _ _ _) ((unhide HN2).pre ha) (by omega) (by simp; omega) ?_) | fail)
                intro A v5 w5 hA ho5 hg5
                try rw [List.nil_append] at hA
                have HB5 : Hid (Below w.heap.size w w5) := below_appR (unhide HB4) (World.ownsRow_nil _ w.heap.size _ _) (Nat.le_refl _) hg5
                have HN5 := hide ((unhide HN2).grown hg5 (by simp [Value.ownBlock]))
                have HKB5 := hide ((hg5.block _ hszw (by simp [Value.ownBlock])).trans (unhide HKB2))
                have hsz5 := hg5.size
                have hlA5 : A.length ≤ 1000000 := by rw [hA]; exact hlA
                rw [← hA] at HR
                have HO5 := hide ho5
                clear hA ho5 hg5 c0 c1 c2 c3 HN2 HKB2 HB4
                obtain ⟨c0, c1, c2, c3⟩ := rw_cells3 (unhide HKB5)
                have hg5 : g < w5.heap.size := (unhide HN5).lt
                go_wp2_with (first
                  | (at_builtin; refine wpList_append_lies _ rfl (.tmp 95) (.tmp 97) 25 rfl B0 51 i0 (.agg #[.int .i64 0, .bool false, .string ⟨#[]⟩]) 3 32 Tryz.underlying25 hi0 hz0 hz1 hz2 rfl (by decide) _ A.length (rwsCells A) rfl ((unhide HO5).alloc _) ⟨w5.heap.size, 0, none⟩ 1 1 _ rfl rfl (rw_news _ _ _ (heap_alloc_new _ _)) (rw_one _ _ _) (by decide) (by unfold maxLen; omega) (by omega) (by simp; omega) _ rfl ?_)
                  | fail)
                intro g6 cap6 w6 ho6 hg6 _ hlt6
                have hnb5 : ∀ j, v5.ownBlock = some j → B0 ≤ j := fun j hj => ((unhide HO5).lt j hj).1
                have hsz6 : w5.heap.size < w6.heap.size := by have := hg6.size; simp at this; omega
                have HB6 : Hid (Below w.heap.size w w6) := below_appR ((unhide HB5).alloc (by omega) _) ((unhide HO5).alloc _) (by omega) hg6
                have HN6 : Hid (RA w6 g 0 l) := ((unhide HN5).grown (World.grownBy_alloc w5 _ none) (by simp)).grown hg6 (fun e => by have := hnb5 g e; omega)
                obtain ⟨A1, hA1⟩ : ∃ A1, A1 = A ++ [(⟨0, true, t⟩ : Rw)] := ⟨_, rfl⟩
                have HO6 : Hid (w6.ownsRow B0 51 3 (.slice (some ⟨g6, 0, none⟩) (A.length + 1) cap6) A1.length (rwsCells A1)) := by
                  show World.ownsRow _ _ _ _ _ _ _
                  rw [hA1, rwsCells_split, rwsCells_one, List.length_append]; exact ho6
                rw [← hA1] at HR
                have hlA1 : A1.length ≤ A.length + 1 ∧ A.length + 1 ≤ A1.length := by rw [hA1, List.length_append]; exact ⟨Nat.le_refl _, Nat.le_refl _⟩
                clear ho6 hg6 hA1 HO5 HN5 HB5 HKB5 c0 c1 c2 c3 hnb5
                go_wp2_with fail
                go_loopw [15, 16, 17] (fun v i _ wq => ∃ m : Nat, a ≤ m ∧ m ≤ z ∧ i = .int .i64 m ∧ wq.ownsRow B0 51 3 v (A1.length + (m - a)) (rwsCells (A1 ++ ((l.drop a).take (m - a)).map Rw.up)) ∧ RA wq g 0 l ∧ Below w.heap.size w wq ∧ w5.heap.size < wq.heap.size) (fun _ i _ _ => z - (intOf i).toNat)
                case atStart => exact ⟨a, Nat.le_refl _, haz, rfl, by rw [Nat.sub_self, List.take_zero, List.map_nil, List.append_nil]; exact unhide HO6, unhide HN6, unhide HB6, hsz6⟩
                case round =>
                  obtain ⟨m, hm1, hm2, rfl, ho7, hn7, hB7, hlt7⟩ := hrel
                  have HO7 := hide ho7
                  have HN7 := hide hn7
                  have HB7 := hide hB7
                  have hg7 := hn7.lt
                  by_cases hmz : m < z
                  · have hml : m < l.length := by omega
                    have hx : l[m]? = some l[m] := List.getElem?_eq_getElem hml
                    obtain ⟨x0, x1, x2⟩ := hn7.cell0 hx
                    have hxd := hd _ (List.getElem_mem hml)
                    have HTK : Hid (((l.drop a).take (m + 1 - a)).map Rw.up = ((l.drop a).take (m - a)).map Rw.up ++ [Rw.up l[m]]) := by
                      show _ = _
                      rw [show m + 1 - a = (m - a) + 1 by omega, List.take_succ_eq_append_getElem (by rw [List.length_drop]; omega), List.map_append]
                      congr 1
                      simp only [List.getElem_drop, List.map_cons, List.map_nil]
                      congr 2
                      congr 1
                      omega
                    clear ho7 hn7 hB7 hx
                    generalize (l[m]'hml) = x at *
                    generalize ((l.drop a).take (m - a)).map Rw.up = M at *
                    go_wp2_with (first
                      | (at_builtin; refine wpList_append_lies _ rfl (.tmp 113) (.tmp 115) 25 rfl B0 51 i0 (.agg #[.int .i64 0, .bool false, .string ⟨#[]⟩]) 3 32 Tryz.underlying25 hi0 hz0 hz1 hz2 rfl (by decide) _ (A1.length + (m - a)) (rwsCells (A1 ++ M)) rfl (((unhide HO7).alloc _).alloc _) ⟨wr.heap.size + 1, 0, none⟩ 1 1 _ rfl rfl (rw_news _ _ _ (heap_alloc2_new _ _ _)) (rw_one _ _ _) (by decide) (by unfold maxLen; omega) (by omega) (by simp; omega) _ rfl ?_)
                      | fail)
                    intro g8 cap8 w8 ho8 hg8 _ hlt8
                    have hsz8 : wr.heap.size < w8.heap.size := by have := hg8.size; simp at this; omega
                    have HB8 : Hid (Below w.heap.size w w8) := below_appR (((unhide HB7).alloc (by omega) _).alloc (by simp; omega) _) (((unhide HO7).alloc _).alloc _) (by omega) hg8
                    have HN8 : Hid (RA w8 g 0 l) := (((unhide HN7).grown (World.grownBy_alloc wr _ none) (by simp)).grown (World.grownBy_alloc _ _ none) (by simp)).grown hg8 (fun e => by have := ((unhide HO7).lt g e).1; omega)
                    have HO8 : Hid (w8.ownsRow B0 51 3 (.slice (some ⟨g8, 0, none⟩) (A1.length + (m - a) + 1) cap8) (A1.length + (m + 1 - a)) (rwsCells (A1 ++ ((l.drop a).take (m + 1 - a)).map Rw.up))) := by
                      show World.ownsRow _ _ _ _ _ _ _
                      rw [unhide HTK, ← List.append_assoc, rwsCells_split, rwsCells_one, show A1.length + (m + 1 - a) = A1.length + (m - a) + 1 by omega]
                      exact ho8
                    clear ho8 hg8 HO7 HN7 HB7
                    go_wp2_with fail
                    go_roundw
                    case rel => exact ⟨m + 1, by omega, by omega, by go_num, unhide HO8, unhide HN8, unhide HB8, by omega⟩
                    case measure => simp [intOf]; omega
                  · have hmz2 : m = z := by omega
                    subst hmz2
                    obtain ⟨X, hX⟩ : ∃ X, X = A1 ++ ((l.drop a).take (m - a)).map Rw.up := ⟨_, rfl⟩
                    have hXl : X.length = A1.length + (m - a) := by rw [hX, List.length_append, List.length_map, List.length_take, List.length_drop]; omega
                    have HOX : Hid (∀ v, wr.ownsRow B0 51 3 v (A1.length + (m - a)) (rwsCells (A1 ++ ((l.drop a).take (m - a)).map Rw.up)) → wr.ownsRow B0 51 3 v X.length (rwsCells X)) := fun v h => by rw [hXl, hX]; exact h
                    rw [← hX] at HR
                    have HO8 := hide (unhide HOX _ (unhide HO7))
                    have hX1 : 1 ≤ X.length := by omega
                    have hX2 : X.length ≤ 3000000 := by omega
                    clear ho7 hn7 hB7 hX hXl HOX HO7 hmz
                    go_wp2_with (first
                      | (at_builtin; refine append_rws rfl _ _ rfl B0 _ (.slice (if cap = m then some ⟨g, 0, none⟩ else some ⟨g, m * 3, none⟩) (l.length - m) (cap - m)) X (l.drop m) rfl rfl (unhide HO8) (RA.partI (unhide HN7) (by omega) (by omega)) (by omega) (by omega) ?_)
                      | fail)
                    all_goals
                      intro Fi v9 w9 hF ho9 hg9
                      have HB9 := hide (below_appR (unhide HB7) (unhide HO8) (by omega) hg9)
                      rw [← hF] at HR
                      have hF1 : 1 ≤ Fi.length := by rw [hF, List.length_append]; omega
                      rcases row_form ho9 with ⟨_, h0⟩ | ⟨g9, cap9, rfl, hg9'⟩
                      · omega
                      have HRA := hide (RA.of_own ho9 hg9' rfl)
                      have HCP := hide (own_capR ho9)
                      clear ho9 hg9 hF
                      go_wp2_with fail
                      go_ret2
                      rw [unhide HR]
                      exact ⟨unhide HB9, g9, cap9, rfl, unhide HRA, (unhide HCP).1, (unhide HCP).2⟩
      | false =>
        by_cases h0 : 0 < n
        · have HR := hide ((unhide HI).trans (if_pos ⟨rfl, h0⟩))
          go_enter Tryz.func46, Tryz.ntmps46
          go_wp2_with fail
          go_ret2
          rw [unhide HR]
          exact ⟨(Below.refl _ _).alloc (Nat.le_refl _) _, rfl⟩
        have HI2 := hide ((unhide HI).trans (if_neg (fun h => h0 h.2)))
        clear HI
        go_enter Tryz.func46, Tryz.ntmps46
        go_wp2_with fail
        have hn1 : RA (w.alloc (.cells #[.int .i64 0, .bool true, .string t] 51 (0, 0))) g 0 l := hn.heap (heap_alloc_old _ _ hgl)
        have hkb := heap_alloc_new w (.cells #[.int .i64 0, .bool true, .string t] 51 (0, 0))
        have hB1 : Below w.heap.size w (w.alloc (.cells #[.int .i64 0, .bool true, .string t] 51 (0, 0))) := (Below.refl _ _).alloc (Nat.le_refl _) _
        have hlt1 : w.heap.size < (w.alloc (.cells #[.int .i64 0, .bool true, .string t] 51 (0, 0))).heap.size := by simp
        generalize w.alloc (.cells #[.int .i64 0, .bool true, .string t] 51 (0, 0)) = w1 at *
        have HKB := hide hkb
        have HN1 := hide hn1
        have HB1 := hide hB1
        have hg1 : g < w1.heap.size := hn1.lt
        clear hkb hn1 hB1
        go_loopw [2, 10, 11, 13] (fun v2 _ _ v13 wr => ∃ j a : Nat, j ≤ k ∧ a ≤ l.length ∧ v2 = .int .i64 j ∧ v13 = .int .i64 a ∧ Hid (pastU l l.length j a = pastU l l.length k 0) ∧ Below w1.heap.size w1 wr) (fun v2 _ _ _ _ => (intOf v2).toNat)
        case atStart => exact ⟨k, 0, Nat.le_refl _, hp, rfl, by go_num, rfl, Below.refl _ _⟩
        case round =>
          obtain ⟨j, a, hj, ha, rfl, rfl, HE, hB2⟩ := hrel
          have HB2 := hide hB2
          have hsz2 := hB2.size
          have HN2 := hide ((unhide HN1).below hB2 hg1)
          clear hB2
          by_cases hj0 : 0 < j
          · have HP : Hid (pastU l l.length j a = if l.length ≤ a then none else pastU l l.length (j - 1) (a + (1 + undR l a))) := pastU_pos hj0
            by_cases hea : l.length ≤ a
            · have HR : Hid (insR l 0 k n false t = none) := by show _ = _; rw [unhide HI2, ← unhide HE, unhide HP, if_pos hea]
              clear HE HP
              go_wp2_with fail
              go_ret2
              rw [unhide HR]
              exact ⟨(unhide HB1).trans ((unhide HB2).mono (by omega)), rfl⟩
            · have HE2 : Hid (pastU l l.length (j - 1) (a + (1 + undR l a)) = pastU l l.length k 0) := by show _ = _; rw [← unhide HE, unhide HP, if_neg hea]
              have hu := undR_le (l := l) (k := a) (by omega)
              have HU := hide (fun wx h => under_any l a g cap wx hl (by omega) h)
              clear HE HP
              generalize undR l a = u at *
              go_wp2_with fail
              refine (unhide HU _ (unhide HN2)).mono ?_
              rintro e' w3 ⟨rfl, hB3⟩
              have HB3 : Hid (Below w1.heap.size w1 w3) := (unhide HB2).trans (hB3.mono hsz2)
              clear hB3
              go_wp2_with fail
              go_roundw
              case rel => exact ⟨j - 1, a + (1 + u), by omega, by omega, by go_num, by go_num, HE2, unhide HB3⟩
              case measure => simp [intOf]; omega
          · have HF : Hid (pastU l l.length k 0 = some a) := by show _ = _; rw [← unhide HE, show j = 0 by omega]; rfl
            clear HE
            go_wp2_with fail
            go_loopw [3, 10, 11, 14] (fun v3 _ _ v14 wr2 => ∃ j z : Nat, j ≤ n ∧ z ≤ l.length ∧ a ≤ z ∧ v3 = .int .i64 j ∧ v14 = .int .i64 z ∧ Hid (pastU l l.length j z = pastU l l.length n a) ∧ Below w1.heap.size w1 wr2) (fun v3 _ _ _ _ => (intOf v3).toNat)
            case atStart => exact ⟨n, a, Nat.le_refl _, ha, Nat.le_refl _, rfl, rfl, rfl, unhide HB2⟩
            case round =>
              clear HN2 HB2 hsz2
              obtain ⟨j, z, hj, hz, haz, rfl, rfl, HE, hB2⟩ := hrel
              have HB2 := hide hB2
              have hsz2 := hB2.size
              have HN2 := hide ((unhide HN1).below hB2 hg1)
              have HKB2 := hide ((hB2.block _ hlt1).trans (unhide HKB))
              clear hB2
              by_cases hj1 : 0 < j
              · exfalso; omega
              · have HR : Hid (insR l 0 k n false t = some (l.take a ++ [⟨0, false, t⟩] ++ ((l.drop a).take (z - a)).map Rw.up ++ l.drop z)) := by
                  show _ = _
                  have hzz : pastU l l.length n a = some z := by rw [← unhide HE, show j = 0 by omega]; rfl
                  rw [unhide HI2, unhide HF]; simp only []; rw [hzz]
                have HB4 : Hid (Below w.heap.size w wr) := (unhide HB1).trans ((unhide HB2).mono (by omega))
                have hszw : w.heap.size < wr.heap.size := by omega
                obtain ⟨B0, hb0, hb1⟩ : ∃ B0, B0 ≤ wr.heap.size ∧ wr.heap.size ≤ B0 := ⟨wr.heap.size, Nat.le_refl _, Nat.le_refl _⟩
                obtain ⟨c0, c1, c2, c3⟩ := rw_cells3 (unhide HKB2)
                have hlA : (l.take a).length ≤ 1000000 := by rw [List.length_take]; omega
                have hlE : (l.drop z).length ≤ 1000000 := by rw [List.length_drop]; omega
                have hlM : ∀ i, (((l.drop a).take i).map Rw.up).length ≤ 1000000 := fun i => by rw [List.length_map, List.length_take, List.length_drop]; omega
                clear HE HF HB2
                go_wp2_with (first | (at_builtin; refine append_rws rfl _ _ rfl B0 (.slice none 0 0) (.slice (some ⟨g, 0, none⟩) a cap) [] (l.take a) rfl rfl (World.ownsRow_nil _ _ _ _) ((unhide HN2).pre ha) (by omega) (by simp; omega) ?_) | fail)
                intro A v5 w5 hA ho5 hg5
                try rw [List.nil_append] at hA
                have HB5 : Hid (Below w.heap.size w w5) := below_appR (unhide HB4) (World.ownsRow_nil _ w.heap.size _ _) (Nat.le_refl _) hg5
                have HN5 := hide ((unhide HN2).grown hg5 (by simp [Value.ownBlock]))
                have HKB5 := hide ((hg5.block _ hszw (by simp [Value.ownBlock])).trans (unhide HKB2))
                have hsz5 := hg5.size
                have hlA5 : A.length ≤ 1000000 := by rw [hA]; exact hlA
                rw [← hA] at HR
                have HO5 := hide ho5
                clear hA ho5 hg5 c0 c1 c2 c3 HN2 HKB2 HB4
                obtain ⟨c0, c1, c2, c3⟩ := rw_cells3 (unhide HKB5)
                have hg5 : g < w5.heap.size := (unhide HN5).lt
                go_wp2_with (first
                  | (at_builtin; refine wpList_append_lies _ rfl (.tmp 95) (.tmp 97) 25 rfl B0 51 i0 (.agg #[.int .i64 0, .bool false, .string ⟨#[]⟩]) 3 32 Tryz.underlying25 hi0 hz0 hz1 hz2 rfl (by decide) _ A.length (rwsCells A) rfl ((unhide HO5).alloc _) ⟨w5.heap.size, 0, none⟩ 1 1 _ rfl rfl (rw_news _ _ _ (heap_alloc_new _ _)) (rw_one _ _ _) (by decide) (by unfold maxLen; omega) (by omega) (by simp; omega) _ rfl ?_)
                  | fail)
                intro g6 cap6 w6 ho6 hg6 _ hlt6
                have hnb5 : ∀ j, v5.ownBlock = some j → B0 ≤ j := fun j hj => ((unhide HO5).lt j hj).1
                have hsz6 : w5.heap.size < w6.heap.size := by have := hg6.size; simp at this; omega
                have HB6 : Hid (Below w.heap.size w w6) := below_appR ((unhide HB5).alloc (by omega) _) ((unhide HO5).alloc _) (by omega) hg6
                have HN6 : Hid (RA w6 g 0 l) := ((unhide HN5).grown (World.grownBy_alloc w5 _ none) (by simp)).grown hg6 (fun e => by have := hnb5 g e; omega)
                obtain ⟨A1, hA1⟩ : ∃ A1, A1 = A ++ [(⟨0, false, t⟩ : Rw)] := ⟨_, rfl⟩
                have HO6 : Hid (w6.ownsRow B0 51 3 (.slice (some ⟨g6, 0, none⟩) (A.length + 1) cap6) A1.length (rwsCells A1)) := by
                  show World.ownsRow _ _ _ _ _ _ _
                  rw [hA1, rwsCells_split, rwsCells_one, List.length_append]; exact ho6
                rw [← hA1] at HR
                have hlA1 : A1.length ≤ A.length + 1 ∧ A.length + 1 ≤ A1.length := by rw [hA1, List.length_append]; exact ⟨Nat.le_refl _, Nat.le_refl _⟩
                clear ho6 hg6 hA1 HO5 HN5 HB5 HKB5 c0 c1 c2 c3 hnb5
                go_wp2_with fail
                go_loopw [15, 16, 17] (fun v i _ wq => ∃ m : Nat, a ≤ m ∧ m ≤ z ∧ i = .int .i64 m ∧ wq.ownsRow B0 51 3 v (A1.length + (m - a)) (rwsCells (A1 ++ ((l.drop a).take (m - a)).map Rw.up)) ∧ RA wq g 0 l ∧ Below w.heap.size w wq ∧ w5.heap.size < wq.heap.size) (fun _ i _ _ => z - (intOf i).toNat)
                case atStart => exact ⟨a, Nat.le_refl _, haz, rfl, by rw [Nat.sub_self, List.take_zero, List.map_nil, List.append_nil]; exact unhide HO6, unhide HN6, unhide HB6, hsz6⟩
                case round =>
                  obtain ⟨m, hm1, hm2, rfl, ho7, hn7, hB7, hlt7⟩ := hrel
                  have HO7 := hide ho7
                  have HN7 := hide hn7
                  have HB7 := hide hB7
                  have hg7 := hn7.lt
                  by_cases hmz : m < z
                  · have hml : m < l.length := by omega
                    have hx : l[m]? = some l[m] := List.getElem?_eq_getElem hml
                    obtain ⟨x0, x1, x2⟩ := hn7.cell0 hx
                    have hxd := hd _ (List.getElem_mem hml)
                    have HTK : Hid (((l.drop a).take (m + 1 - a)).map Rw.up = ((l.drop a).take (m - a)).map Rw.up ++ [Rw.up l[m]]) := by
                      show _ = _
                      rw [show m + 1 - a = (m - a) + 1 by omega, List.take_succ_eq_append_getElem (by rw [List.length_drop]; omega), List.map_append]
                      congr 1
                      simp only [List.getElem_drop, List.map_cons, List.map_nil]
                      congr 2
                      congr 1
                      omega
                    clear ho7 hn7 hB7 hx
                    generalize (l[m]'hml) = x at *
                    generalize ((l.drop a).take (m - a)).map Rw.up = M at *
                    go_wp2_with (first
                      | (at_builtin; refine wpList_append_lies _ rfl (.tmp 113) (.tmp 115) 25 rfl B0 51 i0 (.agg #[.int .i64 0, .bool false, .string ⟨#[]⟩]) 3 32 Tryz.underlying25 hi0 hz0 hz1 hz2 rfl (by decide) _ (A1.length + (m - a)) (rwsCells (A1 ++ M)) rfl (((unhide HO7).alloc _).alloc _) ⟨wr.heap.size + 1, 0, none⟩ 1 1 _ rfl rfl (rw_news _ _ _ (heap_alloc2_new _ _ _)) (rw_one _ _ _) (by decide) (by unfold maxLen; omega) (by omega) (by simp; omega) _ rfl ?_)
                      | fail)
                    intro g8 cap8 w8 ho8 hg8 _ hlt8
                    have hsz8 : wr.heap.size < w8.heap.size := by have := hg8.size; simp at this; omega
                    have HB8 : Hid (Below w.heap.size w w8) := below_appR (((unhide HB7).alloc (by omega) _).alloc (by simp; omega) _) (((unhide HO7).alloc _).alloc _) (by omega) hg8
                    have HN8 : Hid (RA w8 g 0 l) := (((unhide HN7).grown (World.grownBy_alloc wr _ none) (by simp)).grown (World.grownBy_alloc _ _ none) (by simp)).grown hg8 (fun e => by have := ((unhide HO7).lt g e).1; omega)
                    have HO8 : Hid (w8.ownsRow B0 51 3 (.slice (some ⟨g8, 0, none⟩) (A1.length + (m - a) + 1) cap8) (A1.length + (m + 1 - a)) (rwsCells (A1 ++ ((l.drop a).take (m + 1 - a)).map Rw.up))) := by
                      show World.ownsRow _ _ _ _ _ _ _
                      rw [unhide HTK, ← List.append_assoc, rwsCells_split, rwsCells_one, show A1.length + (m + 1 - a) = A1.length + (m - a) + 1 by omega]
                      exact ho8
                    clear ho8 hg8 HO7 HN7 HB7
                    go_wp2_with fail
                    go_roundw
                    case rel => exact ⟨m + 1, by omega, by omega, by go_num, unhide HO8, unhide HN8, unhide HB8, by omega⟩
                    case measure => simp [intOf]; omega
                  · have hmz2 : m = z := by omega
                    subst hmz2
                    obtain ⟨X, hX⟩ : ∃ X, X = A1 ++ ((l.drop a).take (m - a)).map Rw.up := ⟨_, rfl⟩
                    have hXl : X.length = A1.length + (m - a) := by rw [hX, List.length_append, List.length_map, List.length_take, List.length_drop]; omega
                    have HOX : Hid (∀ v, wr.ownsRow B0 51 3 v (A1.length + (m - a)) (rwsCells (A1 ++ ((l.drop a).take (m - a)).map Rw.up)) → wr.ownsRow B0 51 3 v X.length (rwsCells X)) := fun v h => by rw [hXl, hX]; exact h
                    rw [← hX] at HR
                    have HO8 := hide (unhide HOX _ (unhide HO7))
                    have hX1 : 1 ≤ X.length := by omega
                    have hX2 : X.length ≤ 3000000 := by omega
                    clear ho7 hn7 hB7 hX hXl HOX HO7 hmz
                    go_wp2_with (first
                      | (at_builtin; refine append_rws rfl _ _ rfl B0 _ (.slice (if cap = m then some ⟨g, 0, none⟩ else some ⟨g, m * 3, none⟩) (l.length - m) (cap - m)) X (l.drop m) rfl rfl (unhide HO8) (RA.partI (unhide HN7) (by omega) (by omega)) (by omega) (by omega) ?_)
                      | fail)
                    all_goals
                      intro Fi v9 w9 hF ho9 hg9
                      have HB9 := hide (below_appR (unhide HB7) (unhide HO8) (by omega) hg9)
                      rw [← hF] at HR
                      have hF1 : 1 ≤ Fi.length := by rw [hF, List.length_append]; omega
                      rcases row_form ho9 with ⟨_, h0⟩ | ⟨g9, cap9, rfl, hg9'⟩
                      · omega
                      have HRA := hide (RA.of_own ho9 hg9' rfl)
                      have HCP := hide (own_capR ho9)
                      clear ho9 hg9 hF
                      go_wp2_with fail
                      go_ret2
                      rw [unhide HR]
                      exact ⟨unhide HB9, g9, cap9, rfl, unhide HRA, (unhide HCP).1, (unhide HCP).2⟩
    | succ q =>
      have hq : q < l.length := by omega
      have hxq : l[q]? = some l[q] := List.getElem?_eq_getElem hq
      simp only [parR, hxq] at hpr
      have hin : (l[q]).inner = true := by
        cases h : (l[q]).inner with
        | true => rfl
        | false => rw [h] at hpr; cases hpr
      rw [hin, if_pos rfl] at hpr
      obtain ⟨x0, x1, x2⟩ := hn.cell0 hxq
      rw [hin] at x1
      have hxd0 := hd _ (List.getElem_mem hq)
      have HU := hide (fun wx h => under_any l q g cap wx hl hq h)
      have hu := undR_le hq
      cases hpr
      have e1 : (((q + 1 : Nat) : Int) - 1) = (q : Int) := by omega
      rw [e1]
      have HNX : Hid (∀ o, RA (w.alloc o) g 0 l) := fun o => hn.heap (heap_alloc_old _ _ hgl)
      clear e1 hin hxq
      generalize (l[q]'hq) = y at *
      generalize undR l q = u0 at *
      cases b with
      | true =>
        have HI2 := hide ((unhide HI).trans (if_neg (by simp)))
        clear HI
        go_enter Tryz.func46, Tryz.ntmps46
        go_wp2_with fail
        refine (unhide HU _ (unhide HNX _)).mono ?_
        rintro e' w1 ⟨rfl, hB0⟩
        have hlt1 : w.heap.size < w1.heap.size := by have := hB0.size; simp at this; omega
        have hkb : w1.heap[w.heap.size]? = some (.cells #[.int .i64 ((y.deep + 1 : Nat) : Int), .bool false, .string t] 51 (0, 0)) := (hB0.block _ (by simp)).trans (heap_alloc_new _ _)
        have hB1 : Below w.heap.size w w1 := ((Below.refl w.heap.size w).alloc (Nat.le_refl _) _).trans (hB0.mono (by simp))
        have hn1 : RA w1 g 0 l := hn.below hB1 hgl
        clear hB0
        have HKX := hide hkb
        have HNXX := hide hn1
        have HBXX := hide hB1
        clear hkb hn1 hB1
        go_wp2_with fail
        have hkb := unhide HKX
        have hn1 := unhide HNXX
        have hB1 := unhide HBXX
        clear HKX HNXX HBXX
        have HKB := hide hkb
        have HN1 := hide hn1
        have HB1 := hide hB1
        have hg1 : g < w1.heap.size := hn1.lt
        clear hkb hn1 hB1
        go_loopw [2, 10, 11, 13] (fun v2 _ _ v13 wr => ∃ j a : Nat, j ≤ k ∧ a ≤ l.length ∧ v2 = .int .i64 j ∧ v13 = .int .i64 a ∧ Hid (pastU l (q + 1 + u0) j a = pastU l (q + 1 + u0) k (q + 1)) ∧ Below w1.heap.size w1 wr) (fun v2 _ _ _ _ => (intOf v2).toNat)
        case atStart => exact ⟨k, (q + 1), Nat.le_refl _, hp, rfl, by go_num, rfl, Below.refl _ _⟩
        case round =>
          obtain ⟨j, a, hj, ha, rfl, rfl, HE, hB2⟩ := hrel
          have HB2 := hide hB2
          have hsz2 := hB2.size
          have HN2 := hide ((unhide HN1).below hB2 hg1)
          clear hB2
          by_cases hj0 : 0 < j
          · have HP : Hid (pastU l (q + 1 + u0) j a = if (q + 1 + u0) ≤ a then none else pastU l (q + 1 + u0) (j - 1) (a + (1 + undR l a))) := pastU_pos hj0
            by_cases hea : (q + 1 + u0) ≤ a
            · have HR : Hid (insR l (q + 1) k n true t = none) := by show _ = _; rw [unhide HI2, ← unhide HE, unhide HP, if_pos hea]
              clear HE HP
              go_wp2_with fail
              go_ret2
              rw [unhide HR]
              exact ⟨(unhide HB1).trans ((unhide HB2).mono (by omega)), rfl⟩
            · have HE2 : Hid (pastU l (q + 1 + u0) (j - 1) (a + (1 + undR l a)) = pastU l (q + 1 + u0) k (q + 1)) := by show _ = _; rw [← unhide HE, unhide HP, if_neg hea]
              have hu := undR_le (l := l) (k := a) (by omega)
              have HU := hide (fun wx h => under_any l a g cap wx hl (by omega) h)
              clear HE HP
              generalize undR l a = u at *
              go_wp2_with fail
              refine (unhide HU _ (unhide HN2)).mono ?_
              rintro e' w3 ⟨rfl, hB3⟩
              have HB3 : Hid (Below w1.heap.size w1 w3) := (unhide HB2).trans (hB3.mono hsz2)
              clear hB3
              go_wp2_with fail
              go_roundw
              case rel => exact ⟨j - 1, a + (1 + u), by omega, by omega, by go_num, by go_num, HE2, unhide HB3⟩
              case measure => simp [intOf]; omega
          · have HF : Hid (pastU l (q + 1 + u0) k (q + 1) = some a) := by show _ = _; rw [← unhide HE, show j = 0 by omega]; rfl
            clear HE
            go_wp2_with fail
            go_loopw [3, 10, 11, 14] (fun v3 _ _ v14 wr2 => ∃ j z : Nat, j ≤ n ∧ z ≤ l.length ∧ a ≤ z ∧ v3 = .int .i64 j ∧ v14 = .int .i64 z ∧ Hid (pastU l (q + 1 + u0) j z = pastU l (q + 1 + u0) n a) ∧ Below w1.heap.size w1 wr2) (fun v3 _ _ _ _ => (intOf v3).toNat)
            case atStart => exact ⟨n, a, Nat.le_refl _, ha, Nat.le_refl _, rfl, rfl, rfl, unhide HB2⟩
            case round =>
              clear HN2 HB2 hsz2
              obtain ⟨j, z, hj, hz, haz, rfl, rfl, HE, hB2⟩ := hrel
              have HB2 := hide hB2
              have hsz2 := hB2.size
              have HN2 := hide ((unhide HN1).below hB2 hg1)
              have HKB2 := hide ((hB2.block _ hlt1).trans (unhide HKB))
              clear hB2
              by_cases hj1 : 0 < j
              · have HP : Hid (pastU l (q + 1 + u0) j z = if (q + 1 + u0) ≤ z then none else pastU l (q + 1 + u0) (j - 1) (z + (1 + undR l z))) := pastU_pos hj1
                by_cases hea : (q + 1 + u0) ≤ z
                · have HR : Hid (insR l (q + 1) k n true t = none) := by show _ = _; rw [unhide HI2, unhide HF]; simp only []; rw [← unhide HE, unhide HP, if_pos hea]
                  clear HE HP HF
                  go_wp2_with fail
                  go_ret2
                  rw [unhide HR]
                  exact ⟨(unhide HB1).trans ((unhide HB2).mono (by omega)), rfl⟩
                · have HE2 : Hid (pastU l (q + 1 + u0) (j - 1) (z + (1 + undR l z)) = pastU l (q + 1 + u0) n a) := by show _ = _; rw [← unhide HE, unhide HP, if_neg hea]
                  have hu := undR_le (l := l) (k := z) (by omega)
                  have HU := hide (fun wx h => under_any l z g cap wx hl (by omega) h)
                  clear HE HP
                  generalize undR l z = u at *
                  go_wp2_with fail
                  refine (unhide HU _ (unhide HN2)).mono ?_
                  rintro e' w3 ⟨rfl, hB3⟩
                  have HB3 : Hid (Below w1.heap.size w1 w3) := (unhide HB2).trans (hB3.mono hsz2)
                  clear hB3
                  go_wp2_with fail
                  go_roundw
                  case rel => exact ⟨j - 1, z + (1 + u), by omega, by omega, by omega, by go_num, by go_num, HE2, unhide HB3⟩
                  case measure => simp [intOf]; omega
              · have HR : Hid (insR l (q + 1) k n true t = some (l.take a ++ [⟨y.deep + 1, true, t⟩] ++ ((l.drop a).take (z - a)).map Rw.up ++ l.drop z)) := by
                  show _ = _
                  have hzz : pastU l (q + 1 + u0) n a = some z := by rw [← unhide HE, show j = 0 by omega]; rfl
                  rw [unhide HI2, unhide HF]; simp only []; rw [hzz]
                have HB4 : Hid (Below w.heap.size w wr) := (unhide HB1).trans ((unhide HB2).mono (by omega))
                have hszw : w.heap.size < wr.heap.size := by omega
                obtain ⟨B0, hb0, hb1⟩ : ∃ B0, B0 ≤ wr.heap.size ∧ wr.heap.size ≤ B0 := ⟨wr.heap.size, Nat.le_refl _, Nat.le_refl _⟩
                obtain ⟨c0, c1, c2, c3⟩ := rw_cells3 (unhide HKB2)
                have hlA : (l.take a).length ≤ 1000000 := by rw [List.length_take]; omega
                have hlE : (l.drop z).length ≤ 1000000 := by rw [List.length_drop]; omega
                have hlM : ∀ i, (((l.drop a).take i).map Rw.up).length ≤ 1000000 := fun i => by rw [List.length_map, List.length_take, List.length_drop]; omega
                clear HE HF HB2
                go_wp2_with (first | (at_builtin; refine append_rws rfl _ _ rfl B0 (.slice none 0 0) (.slice (some ⟨g, 0, none⟩) a cap) [] (l.take a) rfl rfl (World.ownsRow_nil _ _ _ _) ((unhide HN2).pre ha) (by omega) (by simp; omega) ?_) | fail)
                intro A v5 w5 hA ho5 hg5
                try rw [List.nil_append] at hA
                have HB5 : Hid (Below w.heap.size w w5) := below_appR (unhide HB4) (World.ownsRow_nil _ w.heap.size _ _) (Nat.le_refl _) hg5
                have HN5 := hide ((unhide HN2).grown hg5 (by simp [Value.ownBlock]))
                have HKB5 := hide ((hg5.block _ hszw (by simp [Value.ownBlock])).trans (unhide HKB2))
                have hsz5 := hg5.size
                have hlA5 : A.length ≤ 1000000 := by rw [hA]; exact hlA
                rw [← hA] at HR
                have HO5 := hide ho5
                clear hA ho5 hg5 c0 c1 c2 c3 HN2 HKB2 HB4
                obtain ⟨c0, c1, c2, c3⟩ := rw_cells3 (unhide HKB5)
                have hg5 : g < w5.heap.size := (unhide HN5).lt
                go_wp2_with (first
                  | (at_builtin; refine wpList_append_lies _ rfl (.tmp 95) (.tmp 97) 25 rfl B0 51 i0 (.agg #[.int .i64 0, .bool false, .string ⟨#[]⟩]) 3 32 Tryz.underlying25 hi0 hz0 hz1 hz2 rfl (by decide) _ A.length (rwsCells A) rfl ((unhide HO5).alloc _) ⟨w5.heap.size, 0, none⟩ 1 1 _ rfl rfl (rw_news _ _ _ (heap_alloc_new _ _)) (rw_one _ _ _) (by decide) (by unfold maxLen; omega) (by omega) (by simp; omega) _ rfl ?_)
                  | fail)
                intro g6 cap6 w6 ho6 hg6 _ hlt6
                have hnb5 : ∀ j, v5.ownBlock = some j → B0 ≤ j := fun j hj => ((unhide HO5).lt j hj).1
                have hsz6 : w5.heap.size < w6.heap.size := by have := hg6.size; simp at this; omega
                have HB6 : Hid (Below w.heap.size w w6) := below_appR ((unhide HB5).alloc (by omega) _) ((unhide HO5).alloc _) (by omega) hg6
                have HN6 : Hid (RA w6 g 0 l) := ((unhide HN5).grown (World.grownBy_alloc w5 _ none) (by simp)).grown hg6 (fun e => by have := hnb5 g e; omega)
                obtain ⟨A1, hA1⟩ : ∃ A1, A1 = A ++ [(⟨y.deep + 1, true, t⟩ : Rw)] := ⟨_, rfl⟩
                have HO6 : Hid (w6.ownsRow B0 51 3 (.slice (some ⟨g6, 0, none⟩) (A.length + 1) cap6) A1.length (rwsCells A1)) := by
                  show World.ownsRow _ _ _ _ _ _ _
                  rw [hA1, rwsCells_split, rwsCells_one, List.length_append]; exact ho6
                rw [← hA1] at HR
                have hlA1 : A1.length ≤ A.length + 1 ∧ A.length + 1 ≤ A1.length := by rw [hA1, List.length_append]; exact ⟨Nat.le_refl _, Nat.le_refl _⟩
                clear ho6 hg6 hA1 HO5 HN5 HB5 HKB5 c0 c1 c2 c3 hnb5
                go_wp2_with fail
                go_loopw [15, 16, 17] (fun v i _ wq => ∃ m : Nat, a ≤ m ∧ m ≤ z ∧ i = .int .i64 m ∧ wq.ownsRow B0 51 3 v (A1.length + (m - a)) (rwsCells (A1 ++ ((l.drop a).take (m - a)).map Rw.up)) ∧ RA wq g 0 l ∧ Below w.heap.size w wq ∧ w5.heap.size < wq.heap.size) (fun _ i _ _ => z - (intOf i).toNat)
                case atStart => exact ⟨a, Nat.le_refl _, haz, rfl, by rw [Nat.sub_self, List.take_zero, List.map_nil, List.append_nil]; exact unhide HO6, unhide HN6, unhide HB6, hsz6⟩
                case round =>
                  obtain ⟨m, hm1, hm2, rfl, ho7, hn7, hB7, hlt7⟩ := hrel
                  have HO7 := hide ho7
                  have HN7 := hide hn7
                  have HB7 := hide hB7
                  have hg7 := hn7.lt
                  by_cases hmz : m < z
                  · have hml : m < l.length := by omega
                    have hx : l[m]? = some l[m] := List.getElem?_eq_getElem hml
                    obtain ⟨x0, x1, x2⟩ := hn7.cell0 hx
                    have hxd := hd _ (List.getElem_mem hml)
                    have HTK : Hid (((l.drop a).take (m + 1 - a)).map Rw.up = ((l.drop a).take (m - a)).map Rw.up ++ [Rw.up l[m]]) := by
                      show _ = _
                      rw [show m + 1 - a = (m - a) + 1 by omega, List.take_succ_eq_append_getElem (by rw [List.length_drop]; omega), List.map_append]
                      congr 1
                      simp only [List.getElem_drop, List.map_cons, List.map_nil]
                      congr 2
                      congr 1
                      omega
                    clear ho7 hn7 hB7 hx
                    generalize (l[m]'hml) = x at *
                    generalize ((l.drop a).take (m - a)).map Rw.up = M at *
                    go_wp2_with (first
                      | (at_builtin; refine wpList_append_lies _ rfl (.tmp 113) (.tmp 115) 25 rfl B0 51 i0 (.agg #[.int .i64 0, .bool false, .string ⟨#[]⟩]) 3 32 Tryz.underlying25 hi0 hz0 hz1 hz2 rfl (by decide) _ (A1.length + (m - a)) (rwsCells (A1 ++ M)) rfl (((unhide HO7).alloc _).alloc _) ⟨wr.heap.size + 1, 0, none⟩ 1 1 _ rfl rfl (rw_news _ _ _ (heap_alloc2_new _ _ _)) (rw_one _ _ _) (by decide) (by unfold maxLen; omega) (by omega) (by simp; omega) _ rfl ?_)
                      | fail)
                    intro g8 cap8 w8 ho8 hg8 _ hlt8
                    have hsz8 : wr.heap.size < w8.heap.size := by have := hg8.size; simp at this; omega
                    have HB8 : Hid (Below w.heap.size w w8) := below_appR (((unhide HB7).alloc (by omega) _).alloc (by simp; omega) _) (((unhide HO7).alloc _).alloc _) (by omega) hg8
                    have HN8 : Hid (RA w8 g 0 l) := (((unhide HN7).grown (World.grownBy_alloc wr _ none) (by simp)).grown (World.grownBy_alloc _ _ none) (by simp)).grown hg8 (fun e => by have := ((unhide HO7).lt g e).1; omega)
                    have HO8 : Hid (w8.ownsRow B0 51 3 (.slice (some ⟨g8, 0, none⟩) (A1.length + (m - a) + 1) cap8) (A1.length + (m + 1 - a)) (rwsCells (A1 ++ ((l.drop a).take (m + 1 - a)).map Rw.up))) := by
                      show World.ownsRow _ _ _ _ _ _ _
                      rw [unhide HTK, ← List.append_assoc, rwsCells_split, rwsCells_one, show A1.length + (m + 1 - a) = A1.length + (m - a) + 1 by omega]
                      exact ho8
                    clear ho8 hg8 HO7 HN7 HB7
                    go_wp2_with fail
                    go_roundw
                    case rel => exact ⟨m + 1, by omega, by omega, by go_num, unhide HO8, unhide HN8, unhide HB8, by omega⟩
                    case measure => simp [intOf]; omega
                  · have hmz2 : m = z := by omega
                    subst hmz2
                    obtain ⟨X, hX⟩ : ∃ X, X = A1 ++ ((l.drop a).take (m - a)).map Rw.up := ⟨_, rfl⟩
                    have hXl : X.length = A1.length + (m - a) := by rw [hX, List.length_append, List.length_map, List.length_take, List.length_drop]; omega
                    have HOX : Hid (∀ v, wr.ownsRow B0 51 3 v (A1.length + (m - a)) (rwsCells (A1 ++ ((l.drop a).take (m - a)).map Rw.up)) → wr.ownsRow B0 51 3 v X.length (rwsCells X)) := fun v h => by rw [hXl, hX]; exact h
                    rw [← hX] at HR
                    have HO8 := hide (unhide HOX _ (unhide HO7))
                    have hX1 : 1 ≤ X.length := by omega
                    have hX2 : X.length ≤ 3000000 := by omega
                    clear ho7 hn7 hB7 hX hXl HOX HO7 hmz
                    go_wp2_with (first
                      | (at_builtin; refine append_rws rfl _ _ rfl B0 _ (.slice (if cap = m then some ⟨g, 0, none⟩ else some ⟨g, m * 3, none⟩) (l.length - m) (cap - m)) X (l.drop m) rfl rfl (unhide HO8) (RA.partI (unhide HN7) (by omega) (by omega)) (by omega) (by omega) ?_)
                      | fail)
                    all_goals
                      intro Fi v9 w9 hF ho9 hg9
                      have HB9 := hide (below_appR (unhide HB7) (unhide HO8) (by omega) hg9)
                      rw [← hF] at HR
                      have hF1 : 1 ≤ Fi.length := by rw [hF, List.length_append]; omega
                      rcases row_form ho9 with ⟨_, h0⟩ | ⟨g9, cap9, rfl, hg9'⟩
                      · omega
                      have HRA := hide (RA.of_own ho9 hg9' rfl)
                      have HCP := hide (own_capR ho9)
                      clear ho9 hg9 hF
                      go_wp2_with fail
                      go_ret2
                      rw [unhide HR]
                      exact ⟨unhide HB9, g9, cap9, rfl, unhide HRA, (unhide HCP).1, (unhide HCP).2⟩
      | false =>
        by_cases h0 : 0 < n
        · have HR := hide ((unhide HI).trans (if_pos ⟨rfl, h0⟩))
          go_enter Tryz.func46, Tryz.ntmps46
          go_wp2_with fail
          go_ret2
          rw [unhide HR]
          exact ⟨(Below.refl _ _).alloc (Nat.le_refl _) _, rfl⟩
        have HI2 := hide ((unhide HI).trans (if_neg (fun h => h0 h.2)))
        clear HI
        go_enter Tryz.func46, Tryz.ntmps46
        go_wp2_with fail
        refine (unhide HU _ (unhide HNX _)).mono ?_
        rintro e' w1 ⟨rfl, hB0⟩
        have hlt1 : w.heap.size < w1.heap.size := by have := hB0.size; simp at this; omega
        have hkb : w1.heap[w.heap.size]? = some (.cells #[.int .i64 ((y.deep + 1 : Nat) : Int), .bool true, .string t] 51 (0, 0)) := (hB0.block _ (by simp)).trans (heap_alloc_new _ _)
        have hB1 : Below w.heap.size w w1 := ((Below.refl w.heap.size w).alloc (Nat.le_refl _) _).trans (hB0.mono (by simp))
        have hn1 : RA w1 g 0 l := hn.below hB1 hgl
        clear hB0
        have HKX := hide hkb
        have HNXX := hide hn1
        have HBXX := hide hB1
        clear hkb hn1 hB1
        go_wp2_with fail
        have hkb := unhide HKX
        have hn1 := unhide HNXX
        have hB1 := unhide HBXX
        clear HKX HNXX HBXX
        have HKB := hide hkb
        have HN1 := hide hn1
        have HB1 := hide hB1
        have hg1 : g < w1.heap.size := hn1.lt
        clear hkb hn1 hB1
        go_loopw [2, 10, 11, 13] (fun v2 _ _ v13 wr => ∃ j a : Nat, j ≤ k ∧ a ≤ l.length ∧ v2 = .int .i64 j ∧ v13 = .int .i64 a ∧ Hid (pastU l (q + 1 + u0) j a = pastU l (q + 1 + u0) k (q + 1)) ∧ Below w1.heap.size w1 wr) (fun v2 _ _ _ _ => (intOf v2).toNat)
        case atStart => exact ⟨k, (q + 1), Nat.le_refl _, hp, rfl, by go_num, rfl, Below.refl _ _⟩
        case round =>
          obtain ⟨j, a, hj, ha, rfl, rfl, HE, hB2⟩ := hrel
          have HB2 := hide hB2
          have hsz2 := hB2.size
          have HN2 := hide ((unhide HN1).below hB2 hg1)
          clear hB2
          by_cases hj0 : 0 < j
          · have HP : Hid (pastU l (q + 1 + u0) j a = if (q + 1 + u0) ≤ a then none else pastU l (q + 1 + u0) (j - 1) (a + (1 + undR l a))) := pastU_pos hj0
            by_cases hea : (q + 1 + u0) ≤ a
            · have HR : Hid (insR l (q + 1) k n false t = none) := by show _ = _; rw [unhide HI2, ← unhide HE, unhide HP, if_pos hea]
              clear HE HP
              go_wp2_with fail
              go_ret2
              rw [unhide HR]
              exact ⟨(unhide HB1).trans ((unhide HB2).mono (by omega)), rfl⟩
            · have HE2 : Hid (pastU l (q + 1 + u0) (j - 1) (a + (1 + undR l a)) = pastU l (q + 1 + u0) k (q + 1)) := by show _ = _; rw [← unhide HE, unhide HP, if_neg hea]
              have hu := undR_le (l := l) (k := a) (by omega)
              have HU := hide (fun wx h => under_any l a g cap wx hl (by omega) h)
              clear HE HP
              generalize undR l a = u at *
              go_wp2_with fail
              refine (unhide HU _ (unhide HN2)).mono ?_
              rintro e' w3 ⟨rfl, hB3⟩
              have HB3 : Hid (Below w1.heap.size w1 w3) := (unhide HB2).trans (hB3.mono hsz2)
              clear hB3
              go_wp2_with fail
              go_roundw
              case rel => exact ⟨j - 1, a + (1 + u), by omega, by omega, by go_num, by go_num, HE2, unhide HB3⟩
              case measure => simp [intOf]; omega
          · have HF : Hid (pastU l (q + 1 + u0) k (q + 1) = some a) := by show _ = _; rw [← unhide HE, show j = 0 by omega]; rfl
            clear HE
            go_wp2_with fail
            go_loopw [3, 10, 11, 14] (fun v3 _ _ v14 wr2 => ∃ j z : Nat, j ≤ n ∧ z ≤ l.length ∧ a ≤ z ∧ v3 = .int .i64 j ∧ v14 = .int .i64 z ∧ Hid (pastU l (q + 1 + u0) j z = pastU l (q + 1 + u0) n a) ∧ Below w1.heap.size w1 wr2) (fun v3 _ _ _ _ => (intOf v3).toNat)
            case atStart => exact ⟨n, a, Nat.le_refl _, ha, Nat.le_refl _, rfl, rfl, rfl, unhide HB2⟩
            case round =>
              clear HN2 HB2 hsz2
              obtain ⟨j, z, hj, hz, haz, rfl, rfl, HE, hB2⟩ := hrel
              have HB2 := hide hB2
              have hsz2 := hB2.size
              have HN2 := hide ((unhide HN1).below hB2 hg1)
              have HKB2 := hide ((hB2.block _ hlt1).trans (unhide HKB))
              clear hB2
              by_cases hj1 : 0 < j
              · exfalso; omega
              · have HR : Hid (insR l (q + 1) k n false t = some (l.take a ++ [⟨y.deep + 1, false, t⟩] ++ ((l.drop a).take (z - a)).map Rw.up ++ l.drop z)) := by
                  show _ = _
                  have hzz : pastU l (q + 1 + u0) n a = some z := by rw [← unhide HE, show j = 0 by omega]; rfl
                  rw [unhide HI2, unhide HF]; simp only []; rw [hzz]
                have HB4 : Hid (Below w.heap.size w wr) := (unhide HB1).trans ((unhide HB2).mono (by omega))
                have hszw : w.heap.size < wr.heap.size := by omega
                obtain ⟨B0, hb0, hb1⟩ : ∃ B0, B0 ≤ wr.heap.size ∧ wr.heap.size ≤ B0 := ⟨wr.heap.size, Nat.le_refl _, Nat.le_refl _⟩
                obtain ⟨c0, c1, c2, c3⟩ := rw_cells3 (unhide HKB2)
                have hlA : (l.take a).length ≤ 1000000 := by rw [List.length_take]; omega
                have hlE : (l.drop z).length ≤ 1000000 := by rw [List.length_drop]; omega
                have hlM : ∀ i, (((l.drop a).take i).map Rw.up).length ≤ 1000000 := fun i => by rw [List.length_map, List.length_take, List.length_drop]; omega
                clear HE HF HB2
                go_wp2_with (first | (at_builtin; refine append_rws rfl _ _ rfl B0 (.slice none 0 0) (.slice (some ⟨g, 0, none⟩) a cap) [] (l.take a) rfl rfl (World.ownsRow_nil _ _ _ _) ((unhide HN2).pre ha) (by omega) (by simp; omega) ?_) | fail)
                intro A v5 w5 hA ho5 hg5
                try rw [List.nil_append] at hA
                have HB5 : Hid (Below w.heap.size w w5) := below_appR (unhide HB4) (World.ownsRow_nil _ w.heap.size _ _) (Nat.le_refl _) hg5
                have HN5 := hide ((unhide HN2).grown hg5 (by simp [Value.ownBlock]))
                have HKB5 := hide ((hg5.block _ hszw (by simp [Value.ownBlock])).trans (unhide HKB2))
                have hsz5 := hg5.size
                have hlA5 : A.length ≤ 1000000 := by rw [hA]; exact hlA
                rw [← hA] at HR
                have HO5 := hide ho5
                clear hA ho5 hg5 c0 c1 c2 c3 HN2 HKB2 HB4
                obtain ⟨c0, c1, c2, c3⟩ := rw_cells3 (unhide HKB5)
                have hg5 : g < w5.heap.size := (unhide HN5).lt
                go_wp2_with (first
                  | (at_builtin; refine wpList_append_lies _ rfl (.tmp 95) (.tmp 97) 25 rfl B0 51 i0 (.agg #[.int .i64 0, .bool false, .string ⟨#[]⟩]) 3 32 Tryz.underlying25 hi0 hz0 hz1 hz2 rfl (by decide) _ A.length (rwsCells A) rfl ((unhide HO5).alloc _) ⟨w5.heap.size, 0, none⟩ 1 1 _ rfl rfl (rw_news _ _ _ (heap_alloc_new _ _)) (rw_one _ _ _) (by decide) (by unfold maxLen; omega) (by omega) (by simp; omega) _ rfl ?_)
                  | fail)
                intro g6 cap6 w6 ho6 hg6 _ hlt6
                have hnb5 : ∀ j, v5.ownBlock = some j → B0 ≤ j := fun j hj => ((unhide HO5).lt j hj).1
                have hsz6 : w5.heap.size < w6.heap.size := by have := hg6.size; simp at this; omega
                have HB6 : Hid (Below w.heap.size w w6) := below_appR ((unhide HB5).alloc (by omega) _) ((unhide HO5).alloc _) (by omega) hg6
                have HN6 : Hid (RA w6 g 0 l) := ((unhide HN5).grown (World.grownBy_alloc w5 _ none) (by simp)).grown hg6 (fun e => by have := hnb5 g e; omega)
                obtain ⟨A1, hA1⟩ : ∃ A1, A1 = A ++ [(⟨y.deep + 1, false, t⟩ : Rw)] := ⟨_, rfl⟩
                have HO6 : Hid (w6.ownsRow B0 51 3 (.slice (some ⟨g6, 0, none⟩) (A.length + 1) cap6) A1.length (rwsCells A1)) := by
                  show World.ownsRow _ _ _ _ _ _ _
                  rw [hA1, rwsCells_split, rwsCells_one, List.length_append]; exact ho6
                rw [← hA1] at HR
                have hlA1 : A1.length ≤ A.length + 1 ∧ A.length + 1 ≤ A1.length := by rw [hA1, List.length_append]; exact ⟨Nat.le_refl _, Nat.le_refl _⟩
                clear ho6 hg6 hA1 HO5 HN5 HB5 HKB5 c0 c1 c2 c3 hnb5
                go_wp2_with fail
                go_loopw [15, 16, 17] (fun v i _ wq => ∃ m : Nat, a ≤ m ∧ m ≤ z ∧ i = .int .i64 m ∧ wq.ownsRow B0 51 3 v (A1.length + (m - a)) (rwsCells (A1 ++ ((l.drop a).take (m - a)).map Rw.up)) ∧ RA wq g 0 l ∧ Below w.heap.size w wq ∧ w5.heap.size < wq.heap.size) (fun _ i _ _ => z - (intOf i).toNat)
                case atStart => exact ⟨a, Nat.le_refl _, haz, rfl, by rw [Nat.sub_self, List.take_zero, List.map_nil, List.append_nil]; exact unhide HO6, unhide HN6, unhide HB6, hsz6⟩
                case round =>
                  obtain ⟨m, hm1, hm2, rfl, ho7, hn7, hB7, hlt7⟩ := hrel
                  have HO7 := hide ho7
                  have HN7 := hide hn7
                  have HB7 := hide hB7
                  have hg7 := hn7.lt
                  by_cases hmz : m < z
                  · have hml : m < l.length := by omega
                    have hx : l[m]? = some l[m] := List.getElem?_eq_getElem hml
                    obtain ⟨x0, x1, x2⟩ := hn7.cell0 hx
                    have hxd := hd _ (List.getElem_mem hml)
                    have HTK : Hid (((l.drop a).take (m + 1 - a)).map Rw.up = ((l.drop a).take (m - a)).map Rw.up ++ [Rw.up l[m]]) := by
                      show _ = _
                      rw [show m + 1 - a = (m - a) + 1 by omega, List.take_succ_eq_append_getElem (by rw [List.length_drop]; omega), List.map_append]
                      congr 1
                      simp only [List.getElem_drop, List.map_cons, List.map_nil]
                      congr 2
                      congr 1
                      omega
                    clear ho7 hn7 hB7 hx
                    generalize (l[m]'hml) = x at *
                    generalize ((l.drop a).take (m - a)).map Rw.up = M at *
                    go_wp2_with (first
                      | (at_builtin; refine wpList_append_lies _ rfl (.tmp 113) (.tmp 115) 25 rfl B0 51 i0 (.agg #[.int .i64 0, .bool false, .string ⟨#[]⟩]) 3 32 Tryz.underlying25 hi0 hz0 hz1 hz2 rfl (by decide) _ (A1.length + (m - a)) (rwsCells (A1 ++ M)) rfl (((unhide HO7).alloc _).alloc _) ⟨wr.heap.size + 1, 0, none⟩ 1 1 _ rfl rfl (rw_news _ _ _ (heap_alloc2_new _ _ _)) (rw_one _ _ _) (by decide) (by unfold maxLen; omega) (by omega) (by simp; omega) _ rfl ?_)
                      | fail)
                    intro g8 cap8 w8 ho8 hg8 _ hlt8
                    have hsz8 : wr.heap.size < w8.heap.size := by have := hg8.size; simp at this; omega
                    have HB8 : Hid (Below w.heap.size w w8) := below_appR (((unhide HB7).alloc (by omega) _).alloc (by simp; omega) _) (((unhide HO7).alloc _).alloc _) (by omega) hg8
                    have HN8 : Hid (RA w8 g 0 l) := (((unhide HN7).grown (World.grownBy_alloc wr _ none) (by simp)).grown (World.grownBy_alloc _ _ none) (by simp)).grown hg8 (fun e => by have := ((unhide HO7).lt g e).1; omega)
                    have HO8 : Hid (w8.ownsRow B0 51 3 (.slice (some ⟨g8, 0, none⟩) (A1.length + (m - a) + 1) cap8) (A1.length + (m + 1 - a)) (rwsCells (A1 ++ ((l.drop a).take (m + 1 - a)).map Rw.up))) := by
                      show World.ownsRow _ _ _ _ _ _ _
                      rw [unhide HTK, ← List.append_assoc, rwsCells_split, rwsCells_one, show A1.length + (m + 1 - a) = A1.length + (m - a) + 1 by omega]
                      exact ho8
                    clear ho8 hg8 HO7 HN7 HB7
                    go_wp2_with fail
                    go_roundw
                    case rel => exact ⟨m + 1, by omega, by omega, by go_num, unhide HO8, unhide HN8, unhide HB8, by omega⟩
                    case measure => simp [intOf]; omega
                  · have hmz2 : m = z := by omega
                    subst hmz2
                    obtain ⟨X, hX⟩ : ∃ X, X = A1 ++ ((l.drop a).take (m - a)).map Rw.up := ⟨_, rfl⟩
                    have hXl : X.length = A1.length + (m - a) := by rw [hX, List.length_append, List.length_map, List.length_take, List.length_drop]; omega
                    have HOX : Hid (∀ v, wr.ownsRow B0 51 3 v (A1.length + (m - a)) (rwsCells (A1 ++ ((l.drop a).take (m - a)).map Rw.up)) → wr.ownsRow B0 51 3 v X.length (rwsCells X)) := fun v h => by rw [hXl, hX]; exact h
                    rw [← hX] at HR
                    have HO8 := hide (unhide HOX _ (unhide HO7))
                    have hX1 : 1 ≤ X.length := by omega
                    have hX2 : X.length ≤ 3000000 := by omega
                    clear ho7 hn7 hB7 hX hXl HOX HO7 hmz
                    go_wp2_with (first
                      | (at_builtin; refine append_rws rfl _ _ rfl B0 _ (.slice (if cap = m then some ⟨g, 0, none⟩ else some ⟨g, m * 3, none⟩) (l.length - m) (cap - m)) X (l.drop m) rfl rfl (unhide HO8) (RA.partI (unhide HN7) (by omega) (by omega)) (by omega) (by omega) ?_)
                      | fail)
                    all_goals
                      intro Fi v9 w9 hF ho9 hg9
                      have HB9 := hide (below_appR (unhide HB7) (unhide HO8) (by omega) hg9)
                      rw [← hF] at HR
                      have hF1 : 1 ≤ Fi.length := by rw [hF, List.length_append]; omega
                      rcases row_form ho9 with ⟨_, h0⟩ | ⟨g9, cap9, rfl, hg9'⟩
                      · omega
                      have HRA := hide (RA.of_own ho9 hg9' rfl)
                      have HCP := hide (own_capR ho9)
                      clear ho9 hg9 hF
                      go_wp2_with fail
                      go_ret2
                      rw [unhide HR]
                      exact ⟨unhide HB9, g9, cap9, rfl, unhide HRA, (unhide HCP).1, (unhide HCP).2⟩

end Go.Proofs.YtdaneedflpfeaaaGreatDoor
