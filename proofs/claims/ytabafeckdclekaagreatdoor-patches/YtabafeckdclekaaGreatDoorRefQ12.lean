import Derived.Test.YtabafeckdclekaaGreatDoorRefQ11
namespace Go.Proofs.YtabafeckdclekaaGreatDoor
set_option maxRecDepth 100000
open Go.RowKit

theorem stepW_none {W : List (List UInt8)} (h2 : ∀ x1, W ≠ [[100], x1]) (h3 : ∀ x1 x2, W ≠ [[114], x1, x2]) (h5 : ∀ x1 x2 x3 x4, W ≠ [[105], x1, x2, x3, x4]) : stepW W = none := by
  match W with
  | [] => rfl
  | [_] => rfl
  | [x, a] =>
    rw [stepW, if_neg (fun e => h2 a (by rw [e]))]
  | [x, a, b] =>
    rw [stepW, if_neg (fun e => h3 a b (by rw [e]))]
  | [_, _, _, _] => rfl
  | [x, a, b, c, d] =>
    rw [stepW, if_neg (fun e => h5 a b c d (by rw [e]))]
  | _ :: _ :: _ :: _ :: _ :: _ :: _ => rfl
/-- The document's Step, of every line. -/
theorem step_all (l : List Rw) (s : ByteArray) (g cap : Nat) (w : World) (hs : s.size ≤ 10000) (hl : l.length ≤ 1000000) (hd : ∀ x ∈ l, x.deep ≤ 1000000) (hn : RA w g 0 l) :
    Calls Tryz.prog 12 #[.slice (some ⟨g, 0, none⟩) l.length cap, .string s] w fun e w' => RowsR w (stepO l (stepW (splitL 32 s.data.toList))) e w' := by
  have hsz : ∀ x ∈ splitL 32 s.data.toList, x.length ≤ 10000 := fun x hx => by
    have := splitL_size 32 s.data.toList x hx
    have h2 : s.data.toList.length = s.size := rfl
    omega
  have hlen := (splitL_len 32 s.data.toList).1
  obtain ⟨W, hW⟩ : ∃ W, splitL 32 s.data.toList = W := ⟨_, rfl⟩
  rw [hW] at hsz hlen ⊢
  have hnil : l = [] ∨ 1 ≤ l.length := by cases l with | nil => exact .inl rfl | cons _ _ => exact .inr (by simp)
  by_cases c2 : ∃ x1, W = [[100], x1]
  · obtain ⟨x1, e⟩ := c2
    have z1 := hsz x1 (by rw [e]; simp)
    rcases hnil with rfl | h1
    · exact stepDNil s W x1 g cap w hs hW e z1 hn
    · exact stepD_any l s W x1 g cap w hs hW e h1 hl hd z1 hn
  by_cases c3 : ∃ x1 x2, W = [[114], x1, x2]
  · obtain ⟨x1, x2, e⟩ := c3
    have z1 := hsz x1 (by rw [e]; simp)
    have z2 := hsz x2 (by rw [e]; simp)
    rcases hnil with rfl | h1
    · exact stepRnNil s W x1 x2 g cap w hs hW e z1 z2 hn
    · exact stepRn_any l s W x1 x2 g cap w hs hW e h1 hl z1 z2 hn
  by_cases c5 : ∃ x1 x2 x3 x4, W = [[105], x1, x2, x3, x4]
  · obtain ⟨x1, x2, x3, x4, e⟩ := c5
    have z1 := hsz x1 (by rw [e]; simp)
    have z2 := hsz x2 (by rw [e]; simp)
    have z3 := hsz x3 (by rw [e]; simp)
    have z4 := hsz x4 (by rw [e]; simp)
    rcases hnil with rfl | h1
    · exact stepINil s W x1 x2 x3 x4 g cap w hs hW e z1 z2 z3 z4 hn
    · exact stepI_any l s W x1 x2 x3 x4 g cap w hs hW e h1 hl hd z1 z2 z3 z4 hn
  have hno : stepW W = none := stepW_none (fun x1 e => c2 ⟨x1, e⟩) (fun x1 x2 e => c3 ⟨x1, x2, e⟩) (fun x1 x2 x3 x4 e => c5 ⟨x1, x2, x3, x4, e⟩)
  by_cases k1 : W.length = 1
  · rcases hnil with rfl | h1
    · exact stepNo1Nil s W g cap w hs hW k1 hno hn
    · exact stepNo1 l s W g cap w hs hW k1 hno h1 hl hn
  obtain ⟨x0, hx0⟩ : ∃ x0, W[0]? = some x0 := ⟨_, List.getElem?_eq_getElem (by omega)⟩
  obtain ⟨x1, hx1⟩ : ∃ x1, W[1]? = some x1 := ⟨_, List.getElem?_eq_getElem (by omega)⟩
  have z1 := hsz x1 (List.mem_of_getElem? hx1)
  by_cases k2 : W.length = 2
  · have hne : x0 ≠ [100] := fun e => by
      obtain ⟨a, b, q⟩ := len2 k2
      rw [q] at hx0; simp at hx0
      exact c2 ⟨b, by rw [q, hx0, e]⟩
    rcases hnil with rfl | h1
    · exact stepNo2Nil s W g cap w hs hW k2 hno x0 hx0 hne x1 hx1 z1 hn
    · exact stepNo2 l s W g cap w hs hW k2 hno x0 hx0 hne x1 hx1 z1 h1 hl hn
  by_cases k3 : W.length = 3
  · have hne : x0 ≠ [114] := fun e => by
      obtain ⟨a, b, c, q⟩ := len3 k3
      rw [q] at hx0; simp at hx0
      exact c3 ⟨b, c, by rw [q, hx0, e]⟩
    rcases hnil with rfl | h1
    · exact stepNo3Nil s W g cap w hs hW k3 hno x0 hx0 hne x1 hx1 z1 hn
    · exact stepNo3 l s W g cap w hs hW k3 hno x0 hx0 hne x1 hx1 z1 h1 hl hn
  by_cases k5 : W.length = 5
  · have hne : x0 ≠ [105] := fun e => by
      obtain ⟨a, b, c, d, f, q⟩ := len5 k5
      rw [q] at hx0; simp at hx0
      exact c5 ⟨b, c, d, f, by rw [q, hx0, e]⟩
    rcases hnil with rfl | h1
    · exact stepNo5Nil s W g cap w hs hW k5 hno x0 hx0 hne x1 hx1 z1 hn
    · exact stepNo5 l s W g cap w hs hW k5 hno x0 hx0 hne x1 hx1 z1 h1 hl hn
  have n2 : ((W.length : Int) == 2) = false := by rw [beq_eq_false_iff_ne]; omega
  have n3 : ((W.length : Int) == 3) = false := by rw [beq_eq_false_iff_ne]; omega
  have n5 : ((W.length : Int) == 5) = false := by rw [beq_eq_false_iff_ne]; omega
  rcases hnil with rfl | h1
  · exact stepNoxNil s W g cap w hs hW (by omega) n2 n3 n5 hno x1 hx1 z1 hn
  · exact stepNox l s W g cap w hs hW (by omega) n2 n3 n5 hno x1 hx1 z1 h1 hl hn

end Go.Proofs.YtabafeckdclekaaGreatDoor
