import Derived.Test.YtdaneedflpfeaaaOut
import Derived.Test.YtdaneedflpfeaaaPure1
import Derived.Test.YtdaneedflpfeaaaDistI
namespace Go.Proofs.Ytdaneedflpfeaaa
set_option maxRecDepth 100000
open Go.RowKit

theorem kinds_small3 (g : G) : ∀ kd ∈ kindsOf (body g), kd.size ≤ 1000 := by
  have h : (kindsOf (body g)).all (fun kd => decide (kd.size ≤ 1000)) = true := by cases g <;> decide
  intro kd hk
  exact of_decide_eq_true (List.all_eq_true.1 h kd hk)
/-- What a text that is a program reads as. -/
theorem ok_rows {s : ByteArray} {nodes : List Nd} (h : outT s = .ok nodes) : ∃ l, nodes = (nodeR kProgram l).map (toNd 0) ∧ RC 0 l ∧ 1 ≤ l.length ∧ l.length ≤ 79 ∧ ∀ x ∈ l, x.deep ≤ 1000 ∧ x.text.size ≤ 1000 := by
  obtain ⟨l0, j, hs, hp, rfl, hlen, _⟩ := outT_mod h
  have fa := rowsG _ _ _ _ _ _ hp
  have hq := propG (scanL s 0) (fun x => x.text.size ≤ 1000) (fun x h => h) (fun t ht => by have := scanL_text s 0 t ht; show t.text.size ≤ _; omega) kinds_small3 _ _ _ _ _ hp
  obtain ⟨l1, l2, k, rfl, h1, h2⟩ := parseT_node hp
  have hl2 : ∃ t ∈ scanL s 0, l2 = [⟨0, false, t.text⟩] := by
    simp only [Ab] at h2
    split at h2
    · rename_i t ht
      split at h2
      · cases h2
        exact ⟨t, List.mem_of_getElem? ht, rfl⟩
      · cases h2
    · cases h2
  obtain ⟨t, ht, rfl⟩ := hl2
  have sh := (shG (scanL s 0) _ _ _ _ _ h1).rc
  have e0 : (nodeR kProgram (l1 ++ [(⟨0, false, t.text⟩ : Rw)])).length = (l1 ++ [(⟨0, false, t.text⟩ : Rw)]).length + 1 := by simp [nodeR]
  refine ⟨_, rfl, sh.append ⟨Nat.le_refl _, trivial⟩, by simp, by omega, fun x hx => ?_⟩
  have hx' : x.up ∈ nodeR kProgram (l1 ++ [⟨0, false, t.text⟩]) := List.mem_cons_of_mem _ (List.mem_map_of_mem hx)
  have d := fa.deep _ hx'
  have e := hq _ hx'
  have hl := scanL_len s 0 (Nat.zero_le _)
  refine ⟨?_, e⟩
  have : x.up.deep = x.deep + 1 := rfl
  omega

end Go.Proofs.Ytdaneedflpfeaaa

namespace Go.Proofs.Ytdaneedflpfeaaa
set_option maxRecDepth 100000
open Go.RowKit

/-! ## The fewest steps, of rows (the program alone) -/
def rdeep (r : Rw) : Int := r.deep
def labW (r : Rw) : Bool × ByteArray := (r.inner, r.text)
/-- The forest of rows, its labels. -/
def foW (l : List Rw) : Dist.Fo (Bool × ByteArray) := (Dist.fo rdeep l).map labW
/-- The fewest steps between rows. -/
def dlR (l m : List Rw) : Nat := Dist.dl (foW l) (foW m)
theorem nodeR_size (k : ByteArray) (m : List Rw) : (nodeR k m).length = m.length + 1 := by simp [nodeR]
theorem sub_root (l : List Rw) : subE ((nodeR kProgram l).map (toNd 0)) 0 = l.length + 1 := by
  have hlen : ((nodeR kProgram l).map (toNd 0)).length = l.length + 1 := by rw [List.length_map, nodeR_size]
  have hs := subE_sub (l := (nodeR kProgram l).map (toNd 0)) (k := 0) (by omega)
  have h1 := hs.le
  have h2 := hs.lt
  rcases Nat.lt_or_ge (subE ((nodeR kProgram l).map (toNd 0)) 0) (l.length + 1) with q | q
  · rw [map_node] at *
    obtain ⟨e, he⟩ : ∃ e, subE ((⟨true, kProgram, 0⟩ : Nd) :: l.map (toNd (0 + 1))) 0 = e + 1 := ⟨_, (Nat.succ_pred_eq_of_pos h2).symm⟩
    rw [he] at hs q
    obtain ⟨r, hr⟩ : ∃ r, l[e]? = some r := ⟨_, List.getElem?_eq_getElem (by omega)⟩
    have := hs.stop ⟨true, kProgram, 0⟩ (toNd (0 + 1) r) rfl (by rw [List.getElem?_cons_succ, List.getElem?_map, hr]; rfl)
    simp [toNd] at this
    omega
  · omega
theorem fo_below (l : List Rw) : (Dist.fo Nd.depth (Dist.sg ((nodeR kProgram l).map (toNd 0)) (0 + 1) (l.length + 1))).map lab = foW l := by
  have e : Dist.sg ((nodeR kProgram l).map (toNd 0)) (0 + 1) (l.length + 1) = l.map (toNd (0 + 1)) := by
    rw [map_node]
    unfold Dist.sg
    rw [List.take_of_length_le (by simp)]
    rfl
  rw [e, Dist.fo_map Nd.depth rdeep (toNd (0 + 1)) (fun x y => by simp [toNd, rdeep]) _ _ (Nat.le_refl _), Dist.map_map]
  rfl
theorem dB_rows (l m : List Rw) : dB ((nodeR kProgram l).map (toNd 0)) ((nodeR kProgram m).map (toNd 0)) 0 0 = (dlR l m : Int) := by
  unfold dB dN Dist.dS dlR
  rw [sub_root, sub_root, fo_below, fo_below]
/-- The rows, in their order. -/
def preF {β : Type} : Dist.Fo β → List β
  | .nil => []
  | .cons a c s => a :: (preF c ++ preF s)
theorem preF_map {β γ : Type} (h : β → γ) (f : Dist.Fo β) : preF (f.map h) = (preF f).map h := by
  induction f with
  | nil => rfl
  | cons a c s ih1 ih2 => simp [Dist.Fo.map, preF, ih1, ih2]
theorem preF_fo {β : Type} (d : β → Int) : ∀ (n : Nat) (A : List β), A.length ≤ n → preF (Dist.fo d A) = A := by
  intro n
  induction n with
  | zero =>
    intro A h
    cases A with
    | nil => rw [Dist.fo, preF]
    | cons => simp at h
  | succ n ih =>
    intro A h
    cases A with
    | nil => rw [Dist.fo, preF]
    | cons x A =>
      have e := (Dist.while_parts (fun y => decide (d x < d y)) A).1
      have h1 := Dist.takeWhile_len (fun y => decide (d x < d y)) A
      have h2 := Dist.dropWhile_len (fun y => decide (d x < d y)) A
      rw [Dist.fo, preF, ih _ (by simp at h; omega), ih _ (by simp at h; omega), ← e]
theorem foW_pre (l : List Rw) : preF (foW l) = l.map labW := by
  unfold foW
  rw [preF_map, preF_fo rdeep _ _ (Nat.le_refl _)]
/-- How many labels part. -/
def partsN {α : Type} [DecidableEq α] : List α → List α → Nat
  | a :: l, b :: m => Dist.rel a b + partsN l m
  | _, _ => 0
theorem parts_app {α : Type} [DecidableEq α] (l m l' m' : List α) (h : l.length = m.length) : partsN (l ++ l') (m ++ m') = partsN l m + partsN l' m' := by
  induction l generalizing m with
  | nil => cases m with
    | nil => simp [partsN]
    | cons => simp at h
  | cons a l ih => cases m with
    | nil => simp at h
    | cons b m => simp only [List.cons_append, partsN, ih m (by simpa using h)]; omega
theorem while_same {β : Type} (d : β → Int) (c : Int) : ∀ (l m : List β), l.map d = m.map d → (l.takeWhile fun y => decide (c < d y)).map d = (m.takeWhile fun y => decide (c < d y)).map d ∧ (l.dropWhile fun y => decide (c < d y)).map d = (m.dropWhile fun y => decide (c < d y)).map d := by
  intro l
  induction l with
  | nil => intro m h; cases m with
    | nil => simp
    | cons => simp at h
  | cons a l ih => intro m h; cases m with
    | nil => simp at h
    | cons b m =>
      simp only [List.map_cons, List.cons.injEq] at h
      have := ih m h.2
      by_cases q : c < d a
      · have q' : c < d b := by rw [← h.1]; exact q
        simp [List.takeWhile, List.dropWhile, q', this.1, this.2, h.1]
      · have q' : ¬ c < d b := by rw [← h.1]; exact q
        simp [List.takeWhile, List.dropWhile, q', h.1, h.2]
/-- Rows of one shape: as many steps as labels part. -/
theorem ed_same {β α : Type} [DecidableEq α] (d : β → Int) (lb : β → α) : ∀ (n : Nat) (l m : List β), l.length ≤ n → l.map d = m.map d → Dist.Ed ((Dist.fo d l).map lb) ((Dist.fo d m).map lb) (partsN (l.map lb) (m.map lb)) := by
  intro n
  induction n with
  | zero =>
    intro l m h e
    cases l with
    | cons => simp at h
    | nil => cases m with
      | cons => simp at e
      | nil => rw [Dist.fo]; exact Dist.Ed.nil
  | succ n ih =>
    intro l m h e
    cases l with
    | nil => cases m with
      | cons => simp at e
      | nil => rw [Dist.fo]; exact Dist.Ed.nil
    | cons a l => cases m with
      | nil => simp at e
      | cons b m =>
        simp only [List.map_cons, List.cons.injEq] at e
        have hw := while_same d (d a) l m e.2
        have h1 := Dist.takeWhile_len (fun y => decide (d a < d y)) l
        have h2 := Dist.dropWhile_len (fun y => decide (d a < d y)) l
        rw [Dist.fo, Dist.fo, ← e.1, Dist.Fo.map, Dist.Fo.map]
        have p1 := (Dist.while_parts (fun y => decide (d a < d y)) l).1
        have p2 := (Dist.while_parts (fun y => decide (d a < d y)) m).1
        generalize l.takeWhile (fun y => decide (d a < d y)) = l1 at *
        generalize l.dropWhile (fun y => decide (d a < d y)) = l2 at *
        generalize m.takeWhile (fun y => decide (d a < d y)) = m1 at *
        generalize m.dropWhile (fun y => decide (d a < d y)) = m2 at *
        have hlen : (l1.map lb).length = (m1.map lb).length := by
          have := congrArg List.length hw.1
          simpa using this
        refine (Dist.Ed.mat (ih l1 m1 (by simp at h; omega) hw.1) (ih l2 m2 (by simp at h; omega) hw.2)).cast ?_
        rw [List.map_cons, List.map_cons, partsN, p1, p2, List.map_append, List.map_append, parts_app _ _ _ _ hlen]
        omega

end Go.Proofs.Ytdaneedflpfeaaa
