import Derived.Test.YtdaneedflpfeaaaKeepM
import Derived.Test.YtdaneedflpfeaaaKeepG
namespace Go.Proofs.Ytdaneedflpfeaaa
set_option maxRecDepth 100000
open Go.RowKit

/-! ## The token ahead of a program's last bracket -/
theorem seq_inv {toks : List Tok} {f : G → Nat → Option Res} {a b : Gr} {k j : Nat} {l : List Rw} (h : Ab toks f (.seq a b) k = some (.ok l j)) : ∃ l1 j1 l2, Ab toks f a k = some (.ok l1 j1) ∧ Ab toks f b j1 = some (.ok l2 j) := by
  simp only [Ab] at h
  split at h
  · cases h
  · cases h
  · rename_i l1 j1 h1
    split at h
    · cases h
    · cases h
    · rename_i l2 j2 h2
      cases h
      exact ⟨l1, j1, l2, h1, h2⟩
theorem need_inv {toks : List Tok} {f : G → Nat → Option Res} {kd : ByteArray} {k j : Nat} {l : List Rw} (h : Ab toks f (.need kd) k = some (.ok l j)) : j = k + 1 ∧ kindA toks k = kd := by
  simp only [Ab] at h
  unfold kindA
  split at h
  · rename_i t ht
    split at h
    · rename_i e
      cases h
      rw [ht]
      exact ⟨rfl, e⟩
    · cases h
  · cases h
theorem node_inv {toks : List Tok} {f : G → Nat → Option Res} {kd : ByteArray} {a : Gr} {k j : Nat} {l : List Rw} (h : Ab toks f (.node kd a) k = some (.ok l j)) : ∃ l1, Ab toks f a k = some (.ok l1 j) := by
  simp only [Ab] at h
  split at h
  · cases h
  · cases h
  · rename_i l1 j1 h1
    cases h
    exact ⟨l1, h1⟩
theorem ite_inv {toks : List Tok} {f : G → Nat → Option Res} {c : Cond} {a b : Gr} {k : Nat} {r : Res} (h : Ab toks f (.ite c a b) k = some r) : Ab toks f a k = some r ∨ Ab toks f b k = some r := by
  simp only [Ab] at h
  split at h
  · exact .inl h
  · exact .inr h
theorem skip_inv {toks : List Tok} {f : G → Nat → Option Res} {k j : Nat} {l : List Rw} (h : Ab toks f .skip k = some (.ok l j)) : j = k := by
  simp only [Ab] at h; cases h; rfl
def kS : ByteArray := ⟨#[59]⟩
def kO : ByteArray := ⟨#[123]⟩
def kC : ByteArray := ⟨#[125]⟩
/-- Where a statement ends. -/
def EndS (toks : List Tok) (k j : Nat) : Prop := k < j ∧ (kindA toks (j - 1) = kS ∨ kindA toks (j - 1) = kC)
def EndB (toks : List Tok) (k j : Nat) : Prop := k + 1 < j ∧ kindA toks (j - 1) = kC ∧ (kindA toks (j - 2) = kS ∨ kindA toks (j - 2) = kC ∨ kindA toks (j - 2) = kO)
def EndP (toks : List Tok) : G → Nat → Nat → Prop
  | .statement, k, j => EndS toks k j
  | .emptyS, k, j => EndS toks k j
  | .ifS, k, j => EndS toks k j
  | .whileS, k, j => EndS toks k j
  | .returnS, k, j => EndS toks k j
  | .localS, k, j => EndS toks k j
  | .expr, k, j => EndS toks k j
  | .stmts, k, j => j = k ∨ EndS toks k j
  | .block, k, j => EndB toks k j
  | .function, k, j => EndB toks k j
  | .funcs, k, j => j = k ∨ EndB toks k j
  | _, _, _ => True
theorem EndB.s {toks : List Tok} {k j : Nat} (h : EndB toks k j) : EndS toks k j := ⟨by have := h.1; omega, .inr h.2.1⟩
theorem EndS.mono {toks : List Tok} {k k' j : Nat} (h : EndS toks k j) (hk : k' ≤ k) : EndS toks k' j := ⟨by have := h.1; omega, h.2⟩
theorem EndB.mono {toks : List Tok} {k k' j : Nat} (h : EndB toks k j) (hk : k' ≤ k) : EndB toks k' j := ⟨by have := h.1; omega, h.2⟩
theorem endS_need {toks : List Tok} {k k0 j : Nat} (h : j = k + 1 ∧ kindA toks k = kS) (hk : k0 ≤ k) : EndS toks k0 j := by
  obtain ⟨rfl, h2⟩ := h
  exact ⟨by omega, .inl (by rw [Nat.add_sub_cancel]; exact h2)⟩
theorem endG (toks : List Tok) (n : Nat) : ∀ g k l j, Ag toks n g k = some (.ok l j) → EndP toks g k j := by
  induction n with
  | zero => intro g k l j h; cases h
  | succ n ih =>
    have le : ∀ b k l j, Ab toks (Ag toks n) b k = some (.ok l j) → k ≤ j := fun b k l j h => (shB toks _ (fun g k l j h => shG toks n g k l j h) b k l j h).le
    intro g k l j h
    have h' : Ab toks (Ag toks n) (body g) k = some (.ok l j) := h
    cases g <;> simp only [body] at h' <;> try trivial
    case funcs =>
      rcases ite_inv h' with h1 | h1
      · obtain ⟨l1, j1, l2, a1, a2⟩ := seq_inv h1
        have e1 : EndB toks k j1 := ih .function k l1 j1 a1
        have e2 : j = j1 ∨ EndB toks j1 j := ih .funcs j1 l2 j a2
        rcases e2 with rfl | e2
        · exact .inr e1
        · exact .inr (e2.mono (le _ _ _ _ a1))
      · exact .inl (skip_inv h1)
    case function =>
      obtain ⟨l1, h1⟩ := node_inv h'
      obtain ⟨_, j1, _, a1, h1⟩ := seq_inv h1
      obtain ⟨_, j2, _, a2, h1⟩ := seq_inv h1
      obtain ⟨_, j3, _, a3, h1⟩ := seq_inv h1
      obtain ⟨_, j4, _, a4, h1⟩ := seq_inv h1
      obtain ⟨_, j5, _, a5, h1⟩ := seq_inv h1
      have e : EndB toks j5 j := ih .block j5 _ j h1
      exact e.mono (by have := le _ _ _ _ a1; have := le _ _ _ _ a2; have := le _ _ _ _ a3; have := le _ _ _ _ a4; have := le _ _ _ _ a5; omega)
    case statement =>
      rcases ite_inv h' with h1 | h1
      · exact EndB.s (ih .block k l j h1)
      rcases ite_inv h1 with h1 | h1
      · exact ih .emptyS k l j h1
      rcases ite_inv h1 with h1 | h1
      · exact ih .ifS k l j h1
      rcases ite_inv h1 with h1 | h1
      · exact ih .whileS k l j h1
      rcases ite_inv h1 with h1 | h1
      · exact ih .returnS k l j h1
      rcases ite_inv h1 with h1 | h1
      · exact ih .localS k l j h1
      · exact ih .expr k l j h1
    case block =>
      obtain ⟨l1, h1⟩ := node_inv h'
      obtain ⟨_, j1, _, a1, h2⟩ := seq_inv h1
      obtain ⟨_, j2, _, a2, h3⟩ := seq_inv h2
      obtain ⟨rfl, b1⟩ := need_inv a1
      obtain ⟨rfl, b3⟩ := need_inv h3
      have e : j2 = k + 1 ∨ EndS toks (k + 1) j2 := ih .stmts (k + 1) _ j2 a2
      refine ⟨?_, by rw [Nat.add_sub_cancel]; exact b3, ?_⟩
      · rcases e with rfl | e
        · omega
        · have := e.1; omega
      · rcases e with rfl | e
        · right; right; exact b1
        · rw [show j2 + 1 - 2 = j2 - 1 by omega]
          rcases e.2 with q | q
          · exact .inl q
          · exact .inr (.inl q)
    case stmts =>
      rcases ite_inv h' with h1 | h1
      · obtain ⟨l1, j1, l2, a1, a2⟩ := seq_inv h1
        have e1 : EndS toks k j1 := ih .statement k l1 j1 a1
        have e2 : j = j1 ∨ EndS toks j1 j := ih .stmts j1 l2 j a2
        rcases e2 with rfl | e2
        · exact .inr e1
        · exact .inr (e2.mono (le _ _ _ _ a1))
      · exact .inl (skip_inv h1)
    case emptyS =>
      obtain ⟨l1, h1⟩ := node_inv h'
      exact endS_need (need_inv h1) (Nat.le_refl _)
    case ifS =>
      obtain ⟨l1, h1⟩ := node_inv h'
      obtain ⟨_, j1, _, a1, h1⟩ := seq_inv h1
      obtain ⟨_, j2, _, a2, h1⟩ := seq_inv h1
      obtain ⟨_, j3, _, a3, h1⟩ := seq_inv h1
      have l1 := le _ _ _ _ a1
      have l2 := le _ _ _ _ a2
      have e : EndS toks j2 j3 := ih .statement j2 _ j3 a3
      rcases ite_inv h1 with h1 | h1
      · obtain ⟨_, j4, _, a4, h1⟩ := seq_inv h1
        have e2 : EndS toks j4 j := ih .statement j4 _ j h1
        exact e2.mono (by have := le _ _ _ _ a3; have := le _ _ _ _ a4; omega)
      · rw [skip_inv h1]; exact e.mono (by omega)
    case whileS =>
      obtain ⟨l1, h1⟩ := node_inv h'
      obtain ⟨_, j1, _, a1, h1⟩ := seq_inv h1
      obtain ⟨_, j2, _, a2, h1⟩ := seq_inv h1
      have e : EndS toks j2 j := ih .statement j2 _ j h1
      exact e.mono (by have := le _ _ _ _ a1; have := le _ _ _ _ a2; omega)
    case returnS =>
      obtain ⟨l1, h1⟩ := node_inv h'
      obtain ⟨_, j1, _, a1, h1⟩ := seq_inv h1
      obtain ⟨_, j2, _, a2, h1⟩ := seq_inv h1
      exact endS_need (need_inv h1) (by have := le _ _ _ _ a1; have := le _ _ _ _ a2; omega)
    case localS =>
      obtain ⟨l1, h1⟩ := node_inv h'
      obtain ⟨_, j1, _, a1, h1⟩ := seq_inv h1
      obtain ⟨_, j2, _, a2, h1⟩ := seq_inv h1
      obtain ⟨_, j3, _, a3, h1⟩ := seq_inv h1
      exact endS_need (need_inv h1) (by have := le _ _ _ _ a1; have := le _ _ _ _ a2; have := le _ _ _ _ a3; omega)
    case expr =>
      obtain ⟨l1, h1⟩ := node_inv h'
      obtain ⟨_, j1, _, a1, h1⟩ := seq_inv h1
      exact endS_need (need_inv h1) (le _ _ _ _ a1)
/-- A program's tokens: nothing, or they end so. -/
theorem parse_end {toks : List Tok} {l : List Rw} {j : Nat} (h : parseT toks = some (.ok l j)) : ∃ k, j = k + 1 ∧ kindA toks k = kEnd ∧ (k = 0 ∨ EndB toks 0 k) := by
  have h' : Ab toks (Ag toks 7299) (body .program) 0 = some (.ok l j) := h
  simp only [body] at h'
  obtain ⟨l1, h1⟩ := node_inv h'
  obtain ⟨_, k, _, a1, h1⟩ := seq_inv h1
  obtain ⟨rfl, b⟩ := need_inv h1
  exact ⟨k, rfl, b, endG toks _ .funcs 0 _ k a1⟩
theorem inner_shape : ∀ {l l' : List Rw} (d : Int), l.map shp = l'.map shp → (l.map (toNd 0)).foldl innerStep d = (l'.map (toNd 0)).foldl innerStep d := by
  intro l
  induction l with
  | nil => intro l' d h; cases l' with
    | nil => rfl
    | cons => simp at h
  | cons x l ih => intro l' d h; cases l' with
    | nil => simp at h
    | cons y l' =>
      simp only [List.map_cons, List.cons.injEq] at h
      simp only [List.map_cons, List.foldl_cons]
      have e : innerStep d (toNd 0 x) = innerStep d (toNd 0 y) := by
        have h1 := h.1
        simp only [shp, Prod.mk.injEq] at h1
        unfold innerStep toNd
        simp only [h1.1, h1.2.1]
      rw [e]
      exact ih _ h.2
/-- Tokens of the same kinds: a program too, of the same shape. -/
theorem same_kinds {s t : ByteArray} {l : List Rw} (hl : Prg s l) (hk : (scanL s 0).map (·.kind) = (scanL t 0).map (·.kind)) (ht : t.size ≤ 600) : ∃ l' j, Prg t l' ∧ l.map shp = l'.map shp ∧ leafT l = texts (scanL s 0) 0 j ∧ leafT l' = texts (scanL t 0) 0 j := by
  obtain ⟨l0, j, hs, hp, e, hlen, _⟩ := outT_mod hl.out
  have hl0 := toNd_inj e
  subst hl0
  have hin : innerD ((nodeR kProgram l).map (toNd 0)) ≤ 20 := by
    have ho := hl.out
    unfold outT at ho
    rw [if_neg (by omega), hp] at ho
    simp only at ho
    split at ho
    · cases ho
    · omega
  obtain ⟨l0', hp', hsh⟩ := parT hk hp
  have hlen' : l0'.length ≤ 80 := by
    have := congrArg List.length hsh
    rw [List.length_map, List.length_map] at this
    omega
  have hin' : innerD (l0'.map (toNd 0)) ≤ 20 := by
    have := inner_shape 0 hsh
    unfold innerD at hin ⊢
    rw [← this]; exact hin
  have ho := out_of ht hp' hin' hlen'
  obtain ⟨l1, l2, k, rfl, _, _⟩ := parseT_node hp'
  have s1 := (shG (scanL s 0) _ _ _ _ _ hp).tx
  have s2 := (shG (scanL t 0) _ _ _ _ _ hp').tx
  rw [leafT_node] at s1 s2
  refine ⟨l1 ++ l2, j, prg_is ho, ?_, s1, s2⟩
  unfold nodeR at hsh
  simp only [List.map_cons, List.cons.injEq] at hsh
  have e2 : ∀ l : List Rw, (l.map Rw.up).map shp = (l.map shp).map fun p => (p.1 + 1, p.2) := fun l => by
    rw [List.map_map, List.map_map]; rfl
  rw [e2, e2] at hsh
  have inj : ∀ {a b : List (Nat × Bool × ByteArray)}, a.map (fun p => (p.1 + 1, p.2)) = b.map (fun p => (p.1 + 1, p.2)) → a = b := by
    intro a
    induction a with
    | nil => intro b h; cases b with
      | nil => rfl
      | cons => simp at h
    | cons x a ih => intro b h; cases b with
      | nil => simp at h
      | cons y b =>
        simp only [List.map_cons, List.cons.injEq, Prod.mk.injEq] at h
        rw [ih h.2]
        congr 1
        obtain ⟨⟨h1, h2⟩, _⟩ := h
        cases x; cases y
        simp only at h1 h2
        rw [h2, show _ = _ from Nat.succ.inj h1]
  exact inj hsh.2

end Go.Proofs.Ytdaneedflpfeaaa
