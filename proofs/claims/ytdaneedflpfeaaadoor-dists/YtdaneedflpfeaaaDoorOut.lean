import Derived.Test.YtdaneedflpfeaaaDoorTotal
import Derived.Test.YtdaneedflpfeaaaDoorStr
import Derived.Test.YtdaneedflpfeaaaDoorRead2
namespace Go.Proofs.YtdaneedflpfeaaaDoor
set_option maxRecDepth 100000
open Go.RowKit

def kProgram : ByteArray := ⟨#[112, 114, 111, 103, 114, 97, 109]⟩
def placeA (toks : List Tok) (j : Nat) : Nat := match toks[j]? with | none => 0 | some t => t.place
/-- What read answers of a text. -/
def outT (s : ByteArray) : ROut :=
  if 600 < s.size then .err 1 0 else match parseT (scanL s 0) with
  | some (.fail j) => .err 2 (placeA (scanL s 0) j)
  | some (.ok l _) => if 20 < innerD (l.map (toNd 0)) then .err 3 0 else if 80 < l.length then .err 4 0 else .ok (l.map (toNd 0))
  | none => .err 0 0

theorem parseT_node {toks : List Tok} {l : List Rw} {j : Nat} (h : parseT toks = some (.ok l j)) : ∃ l1 l2 k, l = nodeR kProgram (l1 ++ l2) ∧ Ag toks 7299 .funcs 0 = some (.ok l1 k) ∧ Ab toks (Ag toks 7299) (.need kEnd) k = some (.ok l2 j) := by
  have h' : Ab toks (Ag toks 7299) (body .program) 0 = some (.ok l j) := h
  simp only [body] at h'
  generalize Gr.need kEnd = nd at h' ⊢
  simp only [Ab] at h'
  split at h'
  · cases h'
  · cases h'
  · rename_i l3 j3 h3
    cases h'
    split at h3
    · cases h3
    · cases h3
    · rename_i l1 k h1
      split at h3
      · cases h3
      · cases h3
      · rename_i l2 j2 h2
        cases h3
        exact ⟨l1, l2, k, rfl, h1, h2⟩

theorem read_all (s : ByteArray) (w : World) : Calls Tryd.prog 11 #[.string s] w fun e w' => RPost w (outT s) e w' := by
  by_cases hs : 600 < s.size
  · rw [show outT s = .err 1 0 from by simp [outT, hs]]
    exact read_long s w hs
  · have hlen := scanL_len s 0 (Nat.zero_le _)
    obtain ⟨res, hres⟩ := parseT_some (scanL s 0) (by omega)
    have hsz : sz st0 0 := ⟨Nat.le_refl _, by decide, by decide, fun x hx => by cases hx⟩
    obtain ⟨st', he, hm⟩ := simG (scanL s 0) fuelT .program 0 res hres st0 0 rfl (Nat.zero_le _) rfl hsz (by show 0 + 20 * ((scanL s 0).length - 0) + 50 * 7300 + 60 + 0 ≤ 999999; omega)
    cases res with
    | fail j =>
      have := read_core s w (by omega) (scanL s 0) rfl _ st' he (fun h => by rw [hm.1] at h; cases h)
      rw [show readOut (scanL s 0) st' = outT s from by
        simp only [readOut, hm.1, outT, hres, placeL, placeA, hm.2.1, if_true]
        rw [if_neg hs]
        rfl] at this
      exact this
    | ok l j =>
      have hm' : st' = okSt st0 l j := hm
      obtain ⟨l1, l2, k, rfl, _⟩ := parseT_node hres
      have hnd : st'.nodes = (nodeR kProgram (l1 ++ l2)).map (toNd 0) := by rw [hm']; rfl
      have := read_core s w (by omega) (scanL s 0) rfl _ st' he (fun _ => by rw [hnd]; simp [nodeR])
      rw [show readOut (scanL s 0) st' = outT s from by
        have hfl : st'.failed = false := by rw [hm']; rfl
        simp only [readOut, hfl, outT, hres, hnd, List.length_map]
        rw [if_neg hs]
        rfl] at this
      exact this

/-! ## What holds of all rows -/
def kindsOf : Gr → List ByteArray
  | .seq a b => kindsOf a ++ kindsOf b
  | .ite _ a b => kindsOf a ++ kindsOf b
  | .node k a => k :: kindsOf a
  | .wrap k a _ b => k :: (kindsOf a ++ kindsOf b)
  | _ => []
theorem propB (toks : List Tok) (Q : Rw → Prop) (hup : ∀ x, Q x → Q x.up) (hleaf : ∀ t ∈ toks, Q ⟨0, false, t.text⟩) (f : G → Nat → Option Res) (ih : ∀ g k l j, f g k = some (.ok l j) → ∀ x ∈ l, Q x) :
    ∀ b k l j, (∀ kd ∈ kindsOf b, Q ⟨0, true, kd⟩) → Ab toks f b k = some (.ok l j) → ∀ x ∈ l, Q x := by
  have hnode : ∀ kd l, Q ⟨0, true, kd⟩ → (∀ x ∈ l, Q x) → ∀ x ∈ nodeR kd l, Q x := by
    intro kd l hk hl x hx
    rcases List.mem_cons.1 hx with rfl | hx
    · exact hk
    · obtain ⟨y, hy, rfl⟩ := List.mem_map.1 hx
      exact hup y (hl y hy)
  intro b
  induction b with
  | need kd =>
    intro k l j _ h
    simp only [Ab] at h
    split at h
    · rename_i t ht
      split at h
      · cases h; intro x hx; simp at hx; subst hx; exact hleaf t (List.mem_of_getElem? ht)
      · cases h
    · cases h
  | take =>
    intro k l j _ h
    simp only [Ab] at h
    split at h
    · rename_i t ht; cases h; intro x hx; simp at hx; subst hx; exact hleaf t (List.mem_of_getElem? ht)
    · cases h
  | call g => intro k l j _ h; exact ih g k l j h
  | seq a b iha ihb =>
    intro k l j hk h
    simp only [Ab] at h
    split at h
    · cases h
    · cases h
    · rename_i l1 j1 h1
      split at h
      · cases h
      · cases h
      · rename_i l2 j2 h2
        cases h
        intro x hx
        rcases List.mem_append.1 hx with hx | hx
        · exact iha _ _ _ (fun kd h => hk kd (by simp [kindsOf, h])) h1 x hx
        · exact ihb _ _ _ (fun kd h => hk kd (by simp [kindsOf, h])) h2 x hx
  | ite c a b iha ihb =>
    intro k l j hk h
    simp only [Ab] at h
    split at h
    · exact iha _ _ _ (fun kd h => hk kd (by simp [kindsOf, h])) h
    · exact ihb _ _ _ (fun kd h => hk kd (by simp [kindsOf, h])) h
  | skip => intro k l j _ h; cases h; intro x hx; cases hx
  | node kd a iha =>
    intro k l j hk h
    simp only [Ab] at h
    split at h
    · cases h
    · cases h
    · rename_i l1 j1 h1; cases h; exact hnode kd l1 (hk kd (by simp [kindsOf])) (iha _ _ _ (fun kd h => hk kd (by simp [kindsOf, h])) h1)
  | wrap kd a c b iha ihb =>
    intro k l j hk h
    simp only [Ab] at h
    split at h
    · cases h
    · cases h
    · rename_i l1 j1 h1
      have ha := iha _ _ _ (fun kd h => hk kd (by simp [kindsOf, h])) h1
      split at h
      · split at h
        · cases h
        · cases h
        · rename_i l2 j2 h2
          cases h
          refine hnode kd _ (hk kd (by simp [kindsOf])) fun x hx => ?_
          rcases List.mem_append.1 hx with hx | hx
          · exact ha x hx
          · exact ihb _ _ _ (fun kd h => hk kd (by simp [kindsOf, h])) h2 x hx
      · cases h; exact ha
theorem propG (toks : List Tok) (Q : Rw → Prop) (hup : ∀ x, Q x → Q x.up) (hleaf : ∀ t ∈ toks, Q ⟨0, false, t.text⟩) (hkind : ∀ g, ∀ kd ∈ kindsOf (body g), Q ⟨0, true, kd⟩) (n : Nat) :
    ∀ g k l j, Ag toks n g k = some (.ok l j) → ∀ x ∈ l, Q x := by
  induction n with
  | zero => intro g k l j h; cases h
  | succ n ih => intro g k l j h; exact propB toks Q hup hleaf _ ih (body g) k l j (hkind g) h

theorem kinds_small (g : G) : ∀ kd ∈ kindsOf (body g), kd.size ≤ 1000000 := by
  have h : (kindsOf (body g)).all (fun kd => decide (kd.size ≤ 1000000)) = true := by cases g <;> decide
  intro kd hk
  exact of_decide_eq_true (List.all_eq_true.1 h kd hk)

theorem extract_size (s : ByteArray) (a b : Nat) : (s.extract a b).size ≤ s.size := by
  rw [ByteArray.size_extract]; omega
theorem scanL_text (s : ByteArray) (i : Nat) : ∀ t ∈ scanL s i, t.text.size ≤ s.size := by
  induction i using scanL.induct s with
  | case1 i hi ih =>
    rw [scanL_go hi.2 rfl rfl hi.1]
    intro t ht
    rcases List.mem_cons.1 ht with rfl | ht
    · exact extract_size _ _ _
    · exact ih t ht
  | case2 i hi =>
    rw [scanL, dif_neg hi]
    intro t ht
    simp at ht; subst ht; exact extract_size _ _ _

theorem outT_mod {s : ByteArray} {nodes : List Nd} (h : outT s = .ok nodes) : ∃ l j, s.size ≤ 600 ∧ parseT (scanL s 0) = some (.ok l j) ∧ nodes = l.map (toNd 0) ∧ l.length ≤ 80 ∧ Mod nodes := by
  unfold outT at h
  by_cases hs : 600 < s.size
  · rw [if_pos hs] at h; cases h
  rw [if_neg hs] at h
  split at h
  · cases h
  · rename_i l j hp
    split at h
    · cases h
    split at h
    · cases h
    rename_i h1 h2
    cases h
    refine ⟨l, j, by omega, hp, rfl, by omega, ?_⟩
    have fa := rowsG _ _ _ _ _ _ hp
    have hq := propG (scanL s 0) (fun x => x.text.size ≤ 1000000) (fun x h => h) (fun t ht => by have := scanL_text s 0 t ht; show t.text.size ≤ _; omega) kinds_small _ _ _ _ _ hp
    intro x hx
    obtain ⟨y, hy, rfl⟩ := List.mem_map.1 hx
    have := fa.deep y hy
    refine ⟨?_, ?_, hq y hy⟩
    · show -1000000 ≤ 0 + (y.deep : Int); omega
    · show 0 + (y.deep : Int) ≤ 1000000; omega
  · cases h

theorem scanL_place (s : ByteArray) (i : Nat) (hi : i ≤ s.size) : ∀ t ∈ scanL s i, t.place ≤ s.size := by
  induction i using scanL.induct s with
  | case1 i h ih =>
    have h1 := aheadE_bd s i hi
    rw [scanL_go h.2 rfl rfl h.1]
    intro t ht
    rcases List.mem_cons.1 ht with rfl | ht
    · exact h1.2
    · exact ih (tokenE_bd s _ h1.2).2 t ht
  | case2 i h =>
    rw [scanL, dif_neg h]
    intro t ht
    simp at ht; subst ht; exact (aheadE_bd s i hi).2
theorem placeA_le (s : ByteArray) (j : Nat) : placeA (scanL s 0) j ≤ s.size := by
  unfold placeA
  split
  · exact Nat.zero_le _
  · rename_i t ht; exact scanL_place s 0 (Nat.zero_le _) t (List.mem_of_getElem? ht)
theorem outT_err {s : ByteArray} {c p : Int} (h : outT s = .err c p) : (c = 1 ∧ p = 0 ∧ 600 < s.size) ∨ (c = 2 ∧ 0 ≤ p ∧ p ≤ s.size ∧ s.size ≤ 600) ∨ ((c = 3 ∨ c = 4) ∧ p = 0 ∧ s.size ≤ 600) := by
  unfold outT at h
  by_cases hs : 600 < s.size
  · rw [if_pos hs] at h; cases h; exact .inl ⟨rfl, rfl, hs⟩
  rw [if_neg hs] at h
  have hlen := scanL_len s 0 (Nat.zero_le _)
  obtain ⟨res, hres⟩ := parseT_some (scanL s 0) (by omega)
  rw [hres] at h
  cases res with
  | fail j => cases h; have := placeA_le s j; exact .inr (.inl ⟨rfl, by omega, by omega, by omega⟩)
  | ok l j =>
    simp only at h
    split at h
    · cases h; exact .inr (.inr ⟨.inl rfl, rfl, by omega⟩)
    split at h
    · cases h; exact .inr (.inr ⟨.inr rfl, rfl, by omega⟩)
    · cases h
theorem outT_ne {s : ByteArray} {c p : Int} (h : outT s = .err c p) : c ≠ 0 ∧ c ≤ 4 ∧ 1 ≤ c := by
  rcases outT_err h with h | h | h <;> omega


end Go.Proofs.YtdaneedflpfeaaaDoor
