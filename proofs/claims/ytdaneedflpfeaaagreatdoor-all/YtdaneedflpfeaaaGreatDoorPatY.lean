import Derived.Test.YtdaneedflpfeaaaGreatDoorRefQ5
import Derived.Test.YtdaneedflpfeaaaGreatDoorPatV
import Derived.Test.YtdaneedflpfeaaaGreatDoorOut
import Derived.Test.YtdaneedflpfeaaaGreatDoorRefQ1
import Derived.Test.YtdaneedflpfeaaaGreatDoorRefParse
import Derived.Test.YtdaneedflpfeaaaGreatDoorRefQ12
import Derived.Laws.StructEq
namespace Go.Proofs.YtdaneedflpfeaaaGreatDoor
set_option maxRecDepth 100000
open Go.RowKit

/-- A tree's nodes, of its rows. -/
def nodesOf (l : List Rw) : List Nd := (nodeR kProgram l).map (toNd 0)
theorem nodesOf_eq (l : List Rw) : nodesOf l = ⟨true, kProgram, 0⟩ :: l.map (toNd 1) := by
  rw [nodesOf, map_node]; rfl
theorem nodesOf_len (l : List Rw) : (nodesOf l).length = l.length + 1 := by rw [nodesOf_eq]; simp
theorem nodesOf_get (l : List Rw) (k : Nat) : (nodesOf l)[k + 1]? = l[k]?.map (toNd 1) := by rw [nodesOf_eq]; simp
theorem toNd_depth (r : Rw) : (toNd 1 r).depth = 1 + (r.deep : Int) := rfl
theorem goE_rows (l : List Rw) (d k : Nat) (hk : k ≤ l.length) : goE (nodesOf l) (1 + (d : Int)) (k + 1) = goU l d k + 1 := by
  induction k using goU.induct l d with
  | case1 k h1 h2 ih =>
    have hx : (nodesOf l)[k + 1]? = some (toNd 1 l[k]) := by rw [nodesOf_get, List.getElem?_eq_getElem h1]; rfl
    have hl : k + 1 < (nodesOf l).length := by rw [nodesOf_len]; omega
    rw [List.getElem?_eq_getElem hl] at hx
    rw [goE, dif_pos hl, goU, dif_pos h1, if_pos h2, if_pos (by rw [Option.some.inj hx, toNd_depth]; omega)]
    exact ih h1
  | case2 k h1 h2 =>
    have hx : (nodesOf l)[k + 1]? = some (toNd 1 l[k]) := by rw [nodesOf_get, List.getElem?_eq_getElem h1]; rfl
    have hl : k + 1 < (nodesOf l).length := by rw [nodesOf_len]; omega
    rw [List.getElem?_eq_getElem hl] at hx
    rw [goE, dif_pos hl, goU, dif_pos h1, if_neg h2, if_neg (by rw [Option.some.inj hx, toNd_depth]; omega)]
  | case3 k h1 =>
    rw [goE, dif_neg (by rw [nodesOf_len]; omega), goU, dif_neg h1]
theorem goE_all (l : List Rw) (n k : Nat) (hn : l.length - k ≤ n) (hk : k ≤ l.length) : goE (nodesOf l) 0 (k + 1) = l.length + 1 := by
  induction n generalizing k with
  | zero => rw [goE, dif_neg (by rw [nodesOf_len]; omega)]; omega
  | succ n ih =>
    by_cases h1 : k < l.length
    · have hx : (nodesOf l)[k + 1]? = some (toNd 1 l[k]) := by rw [nodesOf_get, List.getElem?_eq_getElem h1]; rfl
      have hl : k + 1 < (nodesOf l).length := by rw [nodesOf_len]; omega
      rw [List.getElem?_eq_getElem hl] at hx
      rw [goE, dif_pos hl, if_pos (by rw [Option.some.inj hx, toNd_depth]; omega)]
      exact ih (k + 1) (by omega) h1
    · rw [goE, dif_neg (by rw [nodesOf_len]; omega)]; omega
theorem subE_rows {l : List Rw} {k : Nat} (hk : k < l.length) : subE (nodesOf l) (k + 1) = k + 1 + undR l k + 1 := by
  have hx : l[k]? = some l[k] := List.getElem?_eq_getElem hk
  rw [subE, nodesOf_get, hx, undR, hx]
  simp only [Option.map_some, toNd_depth]
  rw [goE_rows l _ (k + 1) hk]
  have := goU_le l (l[k]).deep (k + 1) hk
  omega
theorem subE_root (l : List Rw) : subE (nodesOf l) 0 = l.length + 1 := by
  have h0 : (nodesOf l)[0]? = some ⟨true, kProgram, 0⟩ := by rw [nodesOf_eq]; rfl
  rw [subE, h0]
  exact goE_all l l.length 0 (by omega) (Nat.zero_le _)
theorem pastE_rows (l : List Rw) (limit n : Nat) (hl : limit ≤ l.length) : ∀ a, (∀ b, pastU l limit n a = some b → pastE (nodesOf l) (limit + 1) n (a + 1) = (b + 1, true)) ∧ (pastU l limit n a = none → (pastE (nodesOf l) (limit + 1) n (a + 1)).2 = false) := by
  induction n with
  | zero => intro a; exact ⟨fun b h => (by cases h; rfl), fun h => (by cases h)⟩
  | succ n ih =>
    intro a
    rw [pastU, pastE]
    by_cases h : limit ≤ a
    · rw [if_pos h, if_pos (by omega)]
      exact ⟨fun b h => (by cases h), fun _ => rfl⟩
    · rw [if_neg h, if_neg (by omega), subE_rows (by omega)]
      have := ih (a + (1 + undR l a))
      rw [show a + (1 + undR l a) + 1 = a + 1 + undR l a + 1 by omega] at this
      exact this
theorem sh_down (l : List Rw) (h : ∀ x ∈ l, 1 ≤ x.deep) : (l.map (toNd 1)).map (shN (-1)) = (l.map Rw.down).map (toNd 1) := by
  rw [List.map_map, List.map_map]
  refine List.map_congr_left fun x hx => ?_
  have := h x hx
  simp only [Function.comp_def, shN, toNd, Rw.down]
  congr 1
  omega
theorem sh_up (l : List Rw) : (l.map (toNd 1)).map (shN 1) = (l.map Rw.up).map (toNd 1) := by
  rw [List.map_map, List.map_map]
  refine List.map_congr_left fun x _ => ?_
  simp only [Function.comp_def, shN, toNd, Rw.up]
  first
    | (congr 1; omega)
    | (simp; omega)
theorem nodes_take (l : List Rw) (k : Nat) : (nodesOf l).take (k + 1) = nodesOf (l.take k) := by rw [nodesOf_eq, nodesOf_eq, List.take_succ_cons, List.map_take]
theorem nodes_drop (l : List Rw) (k : Nat) : (nodesOf l).drop (k + 1) = (l.drop k).map (toNd 1) := by rw [nodesOf_eq, List.drop_succ_cons, List.map_drop]
theorem nodes_app (l m : List Rw) : nodesOf l ++ m.map (toNd 1) = nodesOf (l ++ m) := by rw [nodesOf_eq, nodesOf_eq, List.map_append]; rfl
theorem ins_tail (l : List Rw) (e i n p d : Nat) (b : Bool) (t : ByteArray) (dd : Int) (hdd : dd = 1 + (d : Int)) (he : e ≤ l.length) :
    (if (pastE (nodesOf l) (e + 1) i (p + 1)).2 = false ∨ (pastE (nodesOf l) (e + 1) n (pastE (nodesOf l) (e + 1) i (p + 1)).1).2 = false then none else
      some ((nodesOf l).take (pastE (nodesOf l) (e + 1) i (p + 1)).1 ++ [⟨b, t, dd⟩] ++ (((nodesOf l).drop (pastE (nodesOf l) (e + 1) i (p + 1)).1).take ((pastE (nodesOf l) (e + 1) n (pastE (nodesOf l) (e + 1) i (p + 1)).1).1 - (pastE (nodesOf l) (e + 1) i (p + 1)).1)).map (shN 1) ++ (nodesOf l).drop (pastE (nodesOf l) (e + 1) n (pastE (nodesOf l) (e + 1) i (p + 1)).1).1)) =
    (match pastU l e i p with
      | none => none
      | some f => match pastU l e n f with
        | none => none
        | some z => some (l.take f ++ [⟨d, b, t⟩] ++ ((l.drop f).take (z - f)).map Rw.up ++ l.drop z) : Option (List Rw)).map nodesOf := by
  cases h1 : pastU l e i p with
  | none =>
    have := (pastE_rows l e i he p).2 h1
    rw [if_pos (.inl this)]; rfl
  | some f =>
    have e1 := (pastE_rows l e i he p).1 f h1
    rw [e1]
    simp only
    cases h2 : pastU l e n f with
    | none =>
      have := (pastE_rows l e n he f).2 h2
      rw [if_pos (.inr this)]; rfl
    | some z =>
      have e2 := (pastE_rows l e n he f).1 z h2
      rw [e2]
      simp only
      rw [if_neg (by simp)]
      simp only [Option.map_some]
      congr 1
      rw [nodes_take, nodes_drop, nodes_drop, show z + 1 - (f + 1) = z - f by omega, ← List.map_take, sh_up, hdd]
      rw [show ([⟨b, t, 1 + (d : Int)⟩] : List Nd) = [(⟨d, b, t⟩ : Rw)].map (toNd 1) from rfl, nodes_app, nodes_app, nodes_app]
/-- A step does to the nodes what it does to the rows. -/
theorem step_rows (l : List Rw) (st : Stp) : stepN (nodesOf l) st = (stepR l st).map nodesOf := by
  cases st with
  | ren k b t =>
    simp only [stepN, stepR, renN, nodesOf_len]
    by_cases h : k < 1 ∨ l.length < k
    · rw [if_pos h, if_pos (by omega)]; rfl
    · rw [if_neg h, if_neg (by omega)]
      obtain ⟨q, rfl⟩ : ∃ q, k = q + 1 := ⟨k - 1, by omega⟩
      have hq : q < l.length := by omega
      rw [subE_rows hq, nodesOf_get, Nat.add_sub_cancel, List.getElem?_eq_getElem hq]
      simp only [Option.map_some]
      by_cases hb : b = false ∧ 0 < undR l q
      · rw [if_pos hb, if_pos ⟨hb.1, by omega⟩]; rfl
      · rw [if_neg hb, if_neg (fun h => hb ⟨h.1, by omega⟩)]
        simp only [Option.map_some]
        congr 1
        rw [nodesOf_eq, nodesOf_eq, List.set_cons_succ, List.map_set]
        rfl
  | del k =>
    simp only [stepN, stepR, remN, nodesOf_len]
    by_cases h : k < 1 ∨ l.length < k
    · rw [if_pos h, if_pos (by omega)]; rfl
    · rw [if_neg h, if_neg (by omega)]
      obtain ⟨q, rfl⟩ : ∃ q, k = q + 1 := ⟨k - 1, by omega⟩
      have hq : q < l.length := by omega
      have hu := undR_le hq
      simp only [Option.map_some, Nat.add_sub_cancel]
      congr 1
      rw [subE_rows hq, nodes_take, nodes_drop, nodes_drop, show q + 1 + undR l q + 1 - (q + 1 + 1) = undR l q by omega, ← List.map_take, sh_down, nodes_app, nodes_app]
      intro x hx
      obtain ⟨j, hj, rfl⟩ := List.mem_iff_getElem.1 hx
      simp only [List.length_take, List.length_drop] at hj
      exact undR_deep (j := j) hq (by omega) (by simp only [List.getElem_take, List.getElem_drop]; exact List.getElem?_eq_getElem (by omega))
  | ins p i n b t =>
    simp only [stepN, stepR]
    by_cases hp : l.length < p
    · rw [if_pos hp, insN, List.getElem?_eq_none (by rw [nodesOf_len]; omega)]; rfl
    rw [if_neg hp]
    cases p with
    | zero =>
      have h0 : (nodesOf l)[0]? = some ⟨true, kProgram, 0⟩ := by rw [nodesOf_eq]; rfl
      simp only [insN, h0, insR, parR]
      rw [if_neg (by simp)]
      by_cases hb : 0 < n ∧ b = false
      · rw [if_pos hb, if_pos ⟨hb.2, hb.1⟩]; rfl
      · rw [if_neg hb, if_neg (show ¬ (b = false ∧ 0 < n) from fun h => hb ⟨h.2, h.1⟩), subE_root]
        exact ins_tail l l.length i n 0 0 b t (0 + 1) (by simp) (Nat.le_refl _)
    | succ q =>
      have hq : q < l.length := by omega
      have hx : l[q]? = some l[q] := List.getElem?_eq_getElem hq
      have hu := undR_le hq
      simp only [insN, nodesOf_get, hx, Option.map_some, insR, parR]
      cases hin : (l[q]).inner with
      | false =>
        rw [if_pos (show (toNd 1 l[q]).inner = false from hin)]; rfl
      | true =>
        rw [if_neg (by rw [show (toNd 1 l[q]).inner = true from hin]; simp)]
        by_cases hb : 0 < n ∧ b = false
        · rw [if_pos hb]
          simp only [if_true]
          rw [if_pos ⟨hb.2, hb.1⟩]; rfl
        · rw [if_neg hb, subE_rows hq]
          simp only [if_true]
          rw [if_neg (show ¬ (b = false ∧ 0 < n) from fun h => hb ⟨h.2, h.1⟩)]
          exact ins_tail l (q + 1 + undR l q) i n (q + 1) ((l[q]).deep + 1) b t ((toNd 1 l[q]).depth + 1) (by rw [toNd_depth]; omega) hu

end Go.Proofs.YtdaneedflpfeaaaGreatDoor

namespace Go.Proofs.YtdaneedflpfeaaaGreatDoor
set_option maxRecDepth 100000
open Go.RowKit

/-- The lines of a script, one behind the other, on rows. -/
def runR (l : List Rw) (k : Nat) : List (List UInt8) → RunR
  | [] => .ok (nodesOf l)
  | [t] => if t = [] then .ok (nodesOf l) else .bad (k + 1)
  | t :: t2 :: r => match stepO l (stepW (splitL 32 t)) with
    | none => .bad (k + 1)
    | some m => runR m (k + 1) (t2 :: r)
theorem lineE_facts (d : ByteArray) (a : Nat) : (∀ j (hj : j < d.size), a ≤ j → j < runE noLf d a → d[j] ≠ 10) ∧ (∀ h : runE noLf d a < d.size, a ≤ runE noLf d a → d[runE noLf d a] = 10) := by
  induction a using runE.induct noLf d with
  | case1 a h ih =>
    rw [runE, dif_pos h]
    refine ⟨fun j hj h1 h2 => ?_, fun h1 h2 => ?_⟩
    · rcases Nat.lt_or_ge a j with q | q
      · exact ih.1 j hj q h2
      · have : j = a := by omega
        subst this
        intro e
        have := h.2
        rw [bt_in hj, e] at this
        exact absurd this (by decide)
    · exact ih.2 h1 (lineE_ge d (a + 1) (by omega)).1
  | case2 a h =>
    rw [runE, dif_neg h]
    refine ⟨fun j hj h1 h2 => by omega, fun h1 _ => ?_⟩
    have hn : ¬ noLf (bt d a) = true := fun q => h ⟨h1, q⟩
    rw [bt_in h1] at hn
    simp only [noLf, bne_iff_ne, ne_eq, Decidable.not_not] at hn
    exact UInt8.toNat_inj.1 (by show _ = 10; omega)
theorem scr_rows (d : ByteArray) (n : Nat) : ∀ a l k, d.size - a ≤ n → a ≤ d.size → scrN d (nodesOf l) a (k + 1) = runR l k (splitL 10 (d.data.toList.drop a)) := by
  induction n with
  | zero =>
    intro a l k hn ha
    rw [scrN, dif_neg (by omega), List.drop_of_length_le (by show d.size ≤ a; omega)]; rfl
  | succ n ih =>
    intro a l k hn ha
    by_cases hlt : a < d.size
    · have hge := lineE_ge d a ha
      have hf := lineE_facts d a
      rw [scrN, dif_pos hlt]
      by_cases he : runE noLf d a < d.size
      · have h10 := hf.2 he hge.1
        have hseg := seg_at hge.1 he
        rw [h10] at hseg
        have hsp : splitL 10 (d.data.toList.drop a) = lineL d a :: splitL 10 (d.data.toList.drop (runE noLf d a + 1)) := by
          rw [hseg, splitL_at _ _ (seg_mem hf.1)]; rfl
        rw [dif_pos he, hsp]
        have ih' := fun m => ih (runE noLf d a + 1) m (k + 1) (by omega) (by omega)
        cases hs : splitL 10 (d.data.toList.drop (runE noLf d a + 1)) with
        | nil => have := (splitL_len 10 (d.data.toList.drop (runE noLf d a + 1))).1; rw [hs] at this; simp at this
        | cons t2 r =>
          rw [hs] at ih'
          rw [runR]
          cases hw : stepW (splitL 32 (lineL d a)) with
          | none => rfl
          | some st =>
            simp only [stepO, Option.bind_some, step_rows]
            cases hr : stepR l st with
            | none => rfl
            | some m => simp only [Option.map_some]; exact ih' m
      · rw [dif_neg he]
        have hm := seg_mem hf.1
        rw [List.take_of_length_le (by rw [List.length_drop]; show d.size - a ≤ _; omega)] at hm
        rw [splitL_none _ hm, runR, if_neg]
        rw [drop_at hlt]; simp
    · rw [scrN, dif_neg hlt, List.drop_of_length_le (by show d.size ≤ a; omega)]; rfl
theorem leafB_rows (l : List Rw) : leafB (nodesOf l) = leafR l := by
  rw [nodesOf_eq]
  show leafB ([(⟨true, kProgram, 0⟩ : Nd)] ++ l.map (toNd 1)) = _
  induction l with
  | nil => rfl
  | cons x l ih =>
    simp only [leafB, leafR, List.cons_append, List.nil_append, List.flatMap_cons, List.map_cons] at ih ⊢
    simp only [if_true, List.nil_append] at ih ⊢
    rw [ih]; rfl
theorem nodesOf_inj {l m : List Rw} (h : nodesOf l = nodesOf m) : l = m := by
  rw [nodesOf_eq, nodesOf_eq, List.cons.injEq] at h
  refine List.map_inj_right (fun x y hxy => ?_) |>.1 h.2
  cases x; cases y
  simp only [toNd, Nd.mk.injEq] at hxy
  obtain ⟨h1, h2, h3⟩ := hxy
  subst h1 h2
  congr 1
  omega
theorem fine_of_nodes {n : Nat} {l : List Rw} (h : Fine n (nodesOf l)) : l.length ≤ 79 + n ∧ ∀ x ∈ l, x.deep ≤ 2000 + n ∧ x.text.size ≤ 10000 := by
  obtain ⟨_, h2, h3⟩ := h
  rw [nodesOf_len] at h2
  refine ⟨by omega, fun x hx => ?_⟩
  have := h3 (toNd 1 x) (by rw [nodesOf_eq]; exact List.mem_cons_of_mem _ (List.mem_map_of_mem hx))
  rw [toNd_depth] at this
  exact ⟨by omega, this.2.2⟩

end Go.Proofs.YtdaneedflpfeaaaGreatDoor

namespace Go.Proofs.YtdaneedflpfeaaaGreatDoor
set_option maxRecDepth 100000
open Go.RowKit

theorem eq_rw (x y : Rw) (w : World) : (Op.equalIn 10000 51 (.agg #[.int .i64 (x.deep : Int), .bool (!x.inner), .string x.text]) (.agg #[.int .i64 (y.deep : Int), .bool (!y.inner), .string y.text])).run Tryz.prog w = .ok ((x.deep : Int) == (y.deep : Int) && (!x.inner) == (!y.inner) && x.text.toList == y.text.toList) w := by
  have u3 := Tryz.underlying3
  have u4 := Tryz.underlying4
  have u9 := Tryz.underlying9
  have a3 := Tryz.isAgg3
  have a4 := Tryz.isAgg4
  have a9 := Tryz.isAgg9
  have z3 := Tryz.sizeOf3
  have z4 := Tryz.sizeOf4
  have z9 := Tryz.sizeOf9
  have hS : Tryz.prog.underlying 51 = some (.struct (Tryz.prog.fieldsOf 51)) := by kernel_rfl
  have hp : Tryz.prog.stoodInHeld 51 = false := by kernel_rfl
  generalize (x.deep : Int) = xd
  generalize (y.deep : Int) = yd
  generalize (!x.inner) = xi
  generalize (!y.inner) = yi
  rw [show (10000 : Nat) = 9999 + 1 from rfl, run_equalIn_agg w 9999 51 _ _ hS hp]
  simp only [Program.fieldsOf, Tryz.underlying51]
  go_simp
  by_cases h1 : xd = yd <;> by_cases h2 : xi = yi <;> by_cases h3 : x.text.toList = y.text.toList <;> simp [h1, h2, h3]
theorem rw_eq_iff (x y : Rw) : ((x.deep : Int) == (y.deep : Int) && (!x.inner) == (!y.inner) && x.text.toList == y.text.toList) = true ↔ x = y := by
  simp only [Bool.and_eq_true, beq_iff_eq]
  constructor
  · rintro ⟨⟨h1, h2⟩, h3⟩
    cases x; cases y
    simp only at h1 h2 h3
    have e1 := Int.ofNat_inj.1 h1
    have e2 := Bool.not_inj h2
    subst e1 e2
    rw [ba_same h3]
  · rintro rfl; exact ⟨⟨rfl, rfl⟩, rfl⟩

set_option maxHeartbeats 12800000 in
/-- The document's Patch. -/
theorem refPatch_any (a d : ByteArray) (w : World) (hG : Glob w) (hw2 : 2 ≤ w.heap.size) :
    Calls Tryz.prog 9 #[.string a, .string d] w fun e w' => Below w.heap.size w w' ∧ ∃ s c p, e = .returned (.tuple #[.string s, .int .i64 c, .int .i64 p]) ∧ PatchOut a d s c p := by
  have HP : Hid (∀ s w1, Below w.heap.size w w1 → Calls Tryz.prog 21 #[.string s] w1 fun e w' => ∃ o, Same (outT s) o ∧ PostR w1 o e w') := fun s w1 hb => refParse_any s w1 (hG.below hb hw2) (by have := hb.size; omega)
  clear hG
  cases ho : outT a with
  | err c p =>
    have hc : (c != 0) = true := bne_iff_ne.2 (outT_ne ho).1
    have HO := hide ho
    clear ho
    go_enter Tryz.func9, Tryz.ntmps9
    go_wp2_with fail
    refine (unhide HP _ _ (Below.refl _ _)).mono ?_
    rintro e w1 ⟨o, hsm, hpo⟩
    rw [unhide HO] at hsm
    cases o with
    | ok l => exact hsm.elim
    | err c' p' =>
      obtain ⟨rfl, rfl⟩ := hsm
      obtain ⟨hB1, rfl⟩ := hpo
      have HB1 := hide hB1
      clear hB1
      go_wp2_with fail
      go_ret3
      exact ⟨unhide HB1, _, _, _, rfl, .err _ _ (unhide HO)⟩
  | ok nodes =>
    have HO := hide ho
    clear ho
    go_enter Tryz.func9, Tryz.ntmps9
    go_wp2_with fail
    refine (unhide HP _ _ (Below.refl _ _)).mono ?_
    rintro e w1 ⟨o, hsm, hpo⟩
    rw [unhide HO] at hsm
    cases o with
    | err c' p' => exact hsm.elim
    | ok l =>
      obtain ⟨hnd, _, hl1, hl2, hx⟩ := hsm
      obtain ⟨hB1, v, rfl, hown⟩ := hpo
      have hnd' : nodes = nodesOf l := hnd
      rcases row_form hown with ⟨_, h0⟩ | ⟨g, cap, rfl, hg⟩
      · omega
      have HB1 := hide hB1
      have hsz1 := hB1.size
      have HN1 := hide (RA.of_own hown hg rfl)
      have HF : Hid (Fine 0 (nodesOf l)) := fine_rows hl2 hx
      rw [hnd'] at HO
      clear hB1 hown hx hnd hnd'
      by_cases hd : 9000 < d.size
      · go_wp2_with fail
        go_ret3
        exact ⟨unhide HB1, _, _, _, rfl, .long _ (unhide HO) hd⟩
      have HSC : Hid (scrN d (nodesOf l) 0 1 = runR l 0 (splitL 10 d.data.toList)) := by
        have := scr_rows d d.size 0 l 0 (by omega) (Nat.zero_le _)
        rw [List.drop_zero] at this
        exact this
      have HCT : Hid (∀ wx, Calls Tryz.prog 22 #[.string d, .int .u8 10] wx fun e w' => Below wx.heap.size wx w' ∧ ∃ g cap, e = .returned (.slice (some ⟨g, 0, none⟩) (splitL 10 d.data.toList).length cap) ∧ g < w'.heap.size ∧ w'.ownsRow wx.heap.size 9 1 (.slice (some ⟨g, 0, none⟩) (splitL 10 d.data.toList).length cap) (splitL 10 d.data.toList).length (strsV (splitL 10 d.data.toList))) := fun wx => cut_any d 10 wx (by omega)
      have hdl := splitL_len 10 d.data.toList
      have hds := splitL_size 10 d.data.toList
      have hdd : d.data.toList.length = d.size := rfl
      rw [hdd] at hdl hds
      generalize splitL 10 d.data.toList = D at *
      go_wp2_with fail
      refine (unhide HCT _).mono ?_
      rintro e w2 ⟨hB2, gw, capw, rfl, hgw, how⟩
      have hsz2 := hB2.size
      have HB2 : Hid (Below w.heap.size w w2) := (unhide HB1).trans (hB2.mono hsz1)
      have HN2 := hide ((unhide HN1).below hB2 hg)
      have HCELL : Hid (∀ i x, D[i]? = some x → w2.cell? ⟨gw, i, none⟩ = some (.string (mk x))) := fun i x hx => by
        have hi : i < D.length := by
          rcases Nat.lt_or_ge i D.length with h | h
          · exact h
          · rw [List.getElem?_eq_none h] at hx; cases hx
        rw [how.cellAt i (by omega)]
        simp [strsV, hx]
      clear hB2 how HCT HN1
      go_wp2_with fail
      go_loopw [4, 5, 6, 7, 11, 12, 13, 14, 35] (fun _ _ _ v7 _ _ _ _ v35 wr => ∃ (L : List Rw) (g cap k : Nat), k < D.length ∧ v35 = .int .i64 k ∧ v7 = .slice (some ⟨g, 0, none⟩) L.length cap ∧ RA wr g 0 L ∧ gw < wr.heap.size ∧ Hid (∀ i x, D[i]? = some x → wr.cell? ⟨gw, i, none⟩ = some (.string (mk x))) ∧ Hid (runR L k (D.drop k) = runR l 0 D) ∧ Hid (Fine k (nodesOf L)) ∧ Below w.heap.size w wr) (fun _ _ _ _ _ _ _ _ v35 _ => D.length - (intOf v35).toNat)
      case atStart => exact ⟨l, g, cap, 0, by omega, rfl, rfl, unhide HN2, hgw, HCELL, by show _ = _; rw [List.drop_zero], HF, unhide HB2⟩
      case round =>
        clear HN2 HCELL HF HB2 hsz1 hsz2 HB1
        obtain ⟨L, g, cap, k, hk, rfl, rfl, hn, hgw, HCELL, HE, HF, hB⟩ := hrel
        have HN := hide hn
        have hgl := hn.lt
        have HB := hide hB
        have hsz := hB.size
        obtain ⟨t, ht⟩ : ∃ t, D[k]? = some t := ⟨_, List.getElem?_eq_getElem hk⟩
        have ct := unhide HCELL k t ht
        have hts := hds t (List.mem_of_getElem? ht)
        have htz : (mk t).size ≤ 10000 := by rw [mk_size]; omega
        have hfl := fine_of_nodes (unhide HF)
        have hDk : D.drop k = t :: D.drop (k + 1) := by
          rw [List.drop_eq_getElem_cons hk]; rw [List.getElem?_eq_getElem hk] at ht; rw [Option.some.inj ht]
        clear hn hB
        by_cases hlast : k + 1 = D.length
        · have hD1 : D.drop k = [t] := by rw [hDk, List.drop_of_length_le (by omega)]
          have hkl : ((k : Int) == (D.length : Int) - 1) = true := by rw [beq_iff_eq]; omega
          by_cases hte : t = []
          · subst hte
            have hmt : ((mk []).toList != []) = false := by rw [mk_toList]; rfl
            have hmt2 : ((mk []).toList == []) = true := by rw [mk_toList]; rfl
            have HSR : Hid (scrN d (nodesOf l) 0 1 = .ok (nodesOf L)) := by show _ = _; rw [unhide HSC, ← unhide HE, hD1]; rfl
            have hLl := hfl.1
            have HTX := hide (fun x hx => (hfl.2 x hx).2)
            have HPR := hide (fun wx h => refPrint_any L g cap wx (by omega) (unhide HTX) h)
            have HLB := hide (leafB_rows L)
            clear hDk hD1 ht HE HSC HF hfl
            generalize mk [] = t0 at *
            go_wp2_with fail
            refine (unhide HPR _ (unhide HN)).mono ?_
            rintro e w3 ⟨rfl, hB3⟩
            have hsz3 := hB3.size
            have HB3 : Hid (Below w.heap.size w w3) := (unhide HB).trans (hB3.mono hsz)
            have HN3 := hide ((unhide HN).below hB3 hgl)
            have hg3 : g < w3.heap.size := by omega
            clear hB3 HPR ct
            go_wp2_with fail
            refine (unhide HP _ _ (unhide HB3)).mono ?_
            rintro e w4 ⟨o, hsm, hpo⟩
            have HNO : Hid (outT (mk (leafR L)) ≠ .ok (nodesOf L) → PatchOut a d ⟨#[]⟩ 6 0) := fun h => .none _ _ (unhide HO) (by omega) (unhide HSR) (by rw [unhide HLB]; exact h)
            have HYES : Hid (outT (mk (leafR L)) = .ok (nodesOf L) → PatchOut a d (mk (leafR L)) 0 0) := fun h => by
              have := PatchOut.ok (d := d) _ _ (unhide HO) (by omega) (unhide HSR) (by rw [unhide HLB]; exact h)
              rw [unhide HLB] at this
              exact this
            clear HSR HO HLB
            cases hot : outT (mk (leafR L)) with
            | err c p =>
              rw [hot] at hsm
              have hc : (c != 0) = true := bne_iff_ne.2 (outT_ne hot).1
              have HFIN := hide (unhide HNO (fun h => by rw [hot] at h; cases h))
              cases o with
              | ok m => exact hsm.elim
              | err c' p' =>
                obtain ⟨rfl, rfl⟩ := hsm
                obtain ⟨hB4, rfl⟩ := hpo
                have HB4 : Hid (Below w.heap.size w w4) := (unhide HB3).trans (hB4.mono (by omega))
                clear hB4 hot HNO HYES
                generalize mk (leafR L) = T at *
                go_wp2_with fail
                go_ret3
                exact ⟨unhide HB4, _, _, _, rfl, unhide HFIN⟩
            | ok nds =>
              rw [hot] at hsm
              cases o with
              | err c' p' => exact hsm.elim
              | ok m =>
                obtain ⟨hnm, _, hm1, hm2, hmx⟩ := hsm
                have hnm' : nds = nodesOf m := hnm
                obtain ⟨hB4, v4, rfl, ho4⟩ := hpo
                rcases row_form ho4 with ⟨_, h0⟩ | ⟨g4, cap4, rfl, hg4⟩
                · omega
                have HB4 : Hid (Below w.heap.size w w4) := (unhide HB3).trans (hB4.mono (by omega))
                have hsz4 := hB4.size
                have HN4 := hide ((unhide HN3).below hB4 hg3)
                have HM4 := hide (RA.of_own ho4 hg4 rfl)
                have HNE : Hid (m ≠ L → PatchOut a d ⟨#[]⟩ 6 0) := fun h => unhide HNO (fun q => h (by rw [hot, hnm'] at q; exact nodesOf_inj (ROut.ok.inj q)))
                have HEQ : Hid (m = L → PatchOut a d (mk (leafR L)) 0 0) := fun h => unhide HYES (by rw [hot, hnm', h])
                clear hB4 ho4 hot HNO HYES hnm hnm' hmx
                generalize mk (leafR L) = T at *
                by_cases hll : m.length = L.length
                · have hll' : ((m.length : Int) != (L.length : Int)) = false := by simp [hll]
                  go_wp2_with fail
                  go_loopw [4, 5, 6, 18, 80] (fun _ _ _ _ v80 wq => ∃ i : Nat, i ≤ L.length ∧ v80 = .int .i64 i ∧ Hid (L.take i = m.take i) ∧ Below w4.heap.size w4 wq) (fun _ _ _ _ v80 _ => L.length - (intOf v80).toNat)
                  case atStart => exact ⟨0, Nat.zero_le _, rfl, rfl, Below.refl _ _⟩
                  case round =>
                    obtain ⟨i, hi, rfl, HK, hB5⟩ := hrel
                    have HB5 : Hid (Below w.heap.size w wr) := (unhide HB4).trans (hB5.mono (by omega))
                    have HBW := hide hB5
                    have hszr := hB5.size
                    have hgr : g < wr.heap.size := by omega
                    have hgr4 : g4 < wr.heap.size := by omega
                    by_cases hlt : i < L.length
                    · have hx : L[i]? = some L[i] := List.getElem?_eq_getElem hlt
                      have hltm : i < m.length := by omega
                      have hy : m[i]? = some m[i] := List.getElem?_eq_getElem hltm
                      obtain ⟨x0, x1, x2⟩ := ((unhide HN4).below hB5 (by omega)).cell0 hx
                      obtain ⟨y0, y1, y2⟩ := ((unhide HM4).below hB5 hg4).cell0 hy
                      have HT : Hid (L.take (i + 1) = L.take i ++ [L[i]] ∧ m.take (i + 1) = m.take i ++ [m[i]]) := ⟨List.take_succ_eq_append_getElem hlt, List.take_succ_eq_append_getElem hltm⟩
                      have HNX : Hid (L[i] ≠ m[i] → m ≠ L) := fun h e => h (by subst e; rfl)
                      clear hB5 hx hy
                      generalize (L[i]'hlt) = x at *
                      generalize (m[i]'hltm) = y at *
                      have hm : Tryz.prog.eqGuardType Tryz.prog.depth 51 = false := by kernel_rfl
                      have HQ := hide (rw_eq_iff x y)
                      have heq := fun wx => eq_rw x y wx
                      generalize ((x.deep : Int) == (y.deep : Int) && (!x.inner) == (!y.inner) && x.text.toList == y.text.toList) = b at *
                      cases b with
                      | false =>
                        have HFIN := hide (unhide HNE (unhide HNX (fun e => by have := (unhide HQ).2 e; cases this)))
                        go_wp2_with fail
                        go_quiet (fail)
                        go_wp2_with fail
                        go_ret3
                        exact ⟨(unhide HB5).trans (below_drewN' _ _ _), _, _, _, rfl, unhide HFIN⟩
                      | true =>
                        have HXY := hide ((unhide HQ).1 rfl)
                        go_wp2_with fail
                        go_quiet (fail)
                        go_wp2_with fail
                        go_roundw
                        case rel => exact ⟨i + 1, by omega, by go_num, by show _ = _; rw [(unhide HT).1, (unhide HT).2, unhide HK, unhide HXY], (unhide HBW).trans (below_drewN' _ _ _)⟩
                        case measure => simp [intOf]; omega
                    · have HFIN : Hid (PatchOut a d T 0 0) := unhide HEQ (by
                        have := unhide HK
                        rw [List.take_of_length_le (by omega), List.take_of_length_le (by omega)] at this
                        exact this.symm)
                      clear hB5
                      go_wp2_with fail
                      go_ret3
                      exact ⟨unhide HB5, _, _, _, rfl, unhide HFIN⟩
                · have hll' : ((m.length : Int) != (L.length : Int)) = true := by simp; omega
                  have HFIN := hide (unhide HNE (fun h => hll (by rw [h])))
                  go_wp2_with fail
                  go_ret3
                  exact ⟨unhide HB4, _, _, _, rfl, unhide HFIN⟩
          · have hmt : ((mk t).toList != []) = true := by rw [mk_toList]; simp [hte]
            have hmt2 : ((mk t).toList == []) = false := by rw [mk_toList]; simp [hte]
            have HFIN : Hid (PatchOut a d ⟨#[]⟩ 5 ((k + 1 : Nat) : Int)) := .bad _ (k + 1) (unhide HO) (by omega) (by rw [unhide HSC, ← unhide HE, hD1]; rw [runR, if_neg hte])
            clear hDk hD1 ht HE HSC HF hfl
            generalize mk t = t0 at *
            go_wp2_with fail
            go_ret3
            exact ⟨unhide HB, _, _, _, rfl, unhide HFIN⟩
        · have hkl : ((k : Int) == (D.length : Int) - 1) = false := by rw [beq_eq_false_iff_ne]; omega
          obtain ⟨t2, r, hDr⟩ : ∃ t2 r, D.drop (k + 1) = t2 :: r := ⟨_, _, List.drop_eq_getElem_cons (by omega)⟩
          have hRU : runR L k (D.drop k) = match stepO L (stepW (splitL 32 t)) with | none => .bad (k + 1) | some m => runR m (k + 1) (D.drop (k + 1)) := by rw [hDk, hDr]; rfl
          have HST : Hid (∀ wx, RA wx g 0 L → Calls Tryz.prog 23 #[.slice (some ⟨g, 0, none⟩) L.length cap, .string (mk t)] wx fun e w' => RowsR wx (stepO L (stepW (splitL 32 t))) e w') := fun wx hx => step_all L (mk t) g cap wx htz (by have := hfl.1; omega) (fun x hx => by have := (hfl.2 x hx).1; omega) hx
          have HSTF : Hid (∀ m, stepO L (stepW (splitL 32 t)) = some m → Fine (k + 1) (nodesOf m)) := fun m hm => by
            cases hw : stepW (splitL 32 t) with
            | none => rw [hw] at hm; cases hm
            | some st =>
              rw [hw] at hm
              exact stepN_fine (unhide HF) (stepW_small (by omega) hw) (by rw [step_rows]; rw [show stepR L st = some m from hm]; rfl)
          have HRU := hide hRU
          clear hDk hDr hRU ht hfl
          cases hso : stepO L (stepW (splitL 32 t)) with
          | none =>
            rw [hso] at HST
            have HFIN : Hid (PatchOut a d ⟨#[]⟩ 5 ((k + 1 : Nat) : Int)) := .bad _ (k + 1) (unhide HO) (by omega) (by rw [unhide HSC, ← unhide HE, unhide HRU, hso])
            clear hso HRU HSTF HE HSC HF
            generalize mk t = t0 at *
            go_wp2_with fail
            refine (unhide HST _ (unhide HN)).mono ?_
            rintro e w3 ⟨hB3, he⟩
            have he' : e = .returned (.tuple #[.slice none 0 0, .bool false]) := he
            subst he'
            have HB3 : Hid (Below w.heap.size w w3) := (unhide HB).trans (hB3.mono hsz)
            clear hB3 he
            go_wp2_with fail
            go_ret3
            exact ⟨unhide HB3, _, _, _, rfl, unhide HFIN⟩
          | some m =>
            rw [hso] at HST
            have HE2 : Hid (runR m (k + 1) (D.drop (k + 1)) = runR l 0 D) := by show _ = _; rw [← unhide HE, unhide HRU, hso]
            have HF2 := hide (unhide HSTF m hso)
            clear hso HRU HSTF HE HF
            generalize mk t = t0 at *
            go_wp2_with fail
            refine (unhide HST _ (unhide HN)).mono ?_
            rintro e w3 ⟨hB3, g3, cap3, rfl, hra3, _, _⟩
            have HB3 : Hid (Below w.heap.size w w3) := (unhide HB).trans (hB3.mono hsz)
            have HRA3 := hide hra3
            have HCELL3 : Hid (∀ i x, D[i]? = some x → w3.cell? ⟨gw, i, none⟩ = some (.string (mk x))) := fun i x hx => (World.cell?_of_block (hB3.block gw hgw)).trans (unhide HCELL i x hx)
            have hgw3 : gw < w3.heap.size := by have := hB3.size; omega
            clear hB3 hra3
            go_wp2_with fail
            go_roundw
            case rel => exact ⟨m, g3, cap3, k + 1, by omega, by go_num, rfl, unhide HRA3, hgw3, HCELL3, HE2, HF2, unhide HB3⟩
            case measure => simp [intOf]; omega

end Go.Proofs.YtdaneedflpfeaaaGreatDoor

namespace Go.Proofs.YtdaneedflpfeaaaGreatDoor
set_option maxRecDepth 100000
open Go.RowKit

/-- Patch's answer is one. -/
theorem PatchOut.one {a d s s' : ByteArray} {c p c' p' : Int} (h : PatchOut a d s c p) (h' : PatchOut a d s' c' p') : s = s' ∧ c = c' ∧ p = p' := by
  cases h <;> cases h' <;> simp_all <;> omega

set_option maxHeartbeats 1600000 in
theorem patches_any (a d : ByteArray) (w : World) (hG : Glob w) (hw2 : 2 ≤ w.heap.size) :
    Calls Tryz.prog 4 #[.string a, .string d] w fun e w' => e = .returned (.bool true) ∧ Below w.heap.size w w' := by
  have HP : Hid (∀ w1, Below w.heap.size w w1 → Calls Tryz.prog 9 #[.string a, .string d] w1 fun e w' => Below w1.heap.size w1 w' ∧ ∃ s c p, e = .returned (.tuple #[.string s, .int .i64 c, .int .i64 p]) ∧ PatchOut a d s c p) := fun w1 hb => refPatch_any a d w1 (hG.below hb hw2) (by have := hb.size; omega)
  clear hG
  go_enter Tryz.func4, Tryz.ntmps4
  go_wp2_with fail
  refine (patch_any a d _).mono ?_
  rintro e w1 ⟨hB1, s, c, p, rfl, ho⟩
  have HB1 := hide hB1
  have HO := hide ho
  clear hB1 ho
  go_wp2_with fail
  refine (unhide HP _ (unhide HB1)).mono ?_
  rintro e w2 ⟨hB2, s', c', p', rfl, ho'⟩
  have HB2 : Hid (Below w.heap.size w w2) := (unhide HB1).trans (hB2.mono (unhide HB1).size)
  obtain ⟨rfl, rfl, rfl⟩ := (unhide HO).one ho'
  clear hB2 ho'
  go_wp2_with fail
  go_ret
  exact ⟨ret_bool (by simp), unhide HB2⟩

end Go.Proofs.YtdaneedflpfeaaaGreatDoor
