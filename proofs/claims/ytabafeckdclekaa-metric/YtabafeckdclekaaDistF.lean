import Derived.Test.YtabafeckdclekaaDistE
namespace Go.Proofs.Ytabafeckdclekaa
set_option maxRecDepth 100000
open Go.RowKit

theorem goE_spec (l : List Nd) (d : Int) (e : Nat) : (∀ i y, e ≤ i → i < goE l d e → l[i]? = some y → d < y.depth) ∧ (∀ y, l[goE l d e]? = some y → y.depth ≤ d) := by
  induction e using goE.induct l d with
  | case1 e h1 h2 ih =>
    rw [goE, dif_pos h1, if_pos h2]
    refine ⟨fun i y hi hi2 hy => ?_, ih.2⟩
    rcases Nat.lt_or_ge e i with q | q
    · exact ih.1 i y q hi2 hy
    · have : i = e := by omega
      subst this
      rw [List.getElem?_eq_getElem h1] at hy
      rw [← Option.some.inj hy]; exact h2
  | case2 e h1 h2 =>
    rw [goE, dif_pos h1, if_neg h2]
    refine ⟨fun i y hi hi2 hy => by omega, fun y hy => ?_⟩
    rw [List.getElem?_eq_getElem h1] at hy
    rw [← Option.some.inj hy]; omega
  | case3 e h1 =>
    rw [goE, dif_neg h1]
    refine ⟨fun i y hi hi2 hy => by omega, fun y hy => ?_⟩
    rw [List.getElem?_eq_none (by omega)] at hy; cases hy
theorem subE_sub {l : List Nd} {k : Nat} (hk : k < l.length) : Dist.Sub Nd.depth l k (subE l k) where
  lt := (subE_le hk).1
  le := (subE_le hk).2
  deep x y i h1 h2 hx hy := by
    rw [subE, hx] at h2
    exact (goE_spec l x.depth (k + 1)).1 i y (by omega) h2 hy
  stop x y hx hy := by
    rw [subE, hx] at hy
    exact (goE_spec l x.depth (k + 1)).2 y hy
/-- The fewest steps between parts of two lists of nodes. -/
def dN (L M : List Nd) (a b a' b' : Nat) : Int := (Dist.dS Nd.depth lab L M a b a' b' : Int)
/-- What stands below two nodes. -/
def dB (L M : List Nd) (u v : Nat) : Int := dN L M (u + 1) (subE L u) (v + 1) (subE M v)
theorem dl_size {α : Type} [DecidableEq α] (f g : Dist.Fo α) : Dist.dl f g ≤ f.size + g.size := by
  have h1 := Dist.dl_tri f .nil g
  rw [Dist.dl_nil, Dist.dl_nil'] at h1
  exact h1
theorem dN_le (L M : List Nd) (a b a' b' : Nat) (h1 : b ≤ L.length) (h2 : b' ≤ M.length) : 0 ≤ dN L M a b a' b' ∧ dN L M a b a' b' ≤ L.length + M.length := by
  unfold dN Dist.dS
  have := dl_size ((Dist.fo Nd.depth (Dist.sg L a b)).map lab) ((Dist.fo Nd.depth (Dist.sg M a' b')).map lab)
  rw [Dist.map_size, Dist.map_size, Dist.fo_size _ _ _ (Nat.le_refl _), Dist.fo_size _ _ _ (Nat.le_refl _), Dist.sg_len _ _ _ h1, Dist.sg_len _ _ _ h2] at this
  omega
/-- The table's entries. -/
def vN (L M : List Nd) (k l i j : Nat) : Int := dN L M (k + 1 + i) (subE L k) (l + 1 + j) (subE M l)
theorem vN_le {L M : List Nd} {k l : Nat} (hk : k < L.length) (hl : l < M.length) (i j : Nat) : 0 ≤ vN L M k l i j ∧ vN L M k l i j ≤ L.length + M.length :=
  dN_le L M _ _ _ _ (subE_le hk).2 (subE_le hl).2
theorem vN_rows {L M : List Nd} {k l : Nat} (hk : k < L.length) (hl : l < M.length) (j : Nat) : vN L M k l (subE L k - k - 1) j = ((subE M l - (l + 1 + j) : Nat) : Int) := by
  have h1 := subE_le hk; have h2 := subE_le hl
  unfold vN dN
  rw [show k + 1 + (subE L k - k - 1) = subE L k by omega, Dist.dS_end _ _ _ _ _ _ _ h2.2]
theorem vN_cols {L M : List Nd} {k l : Nat} (hk : k < L.length) (hl : l < M.length) (i : Nat) : vN L M k l i (subE M l - l - 1) = ((subE L k - (k + 1 + i) : Nat) : Int) := by
  have h1 := subE_le hk; have h2 := subE_le hl
  unfold vN dN
  rw [show l + 1 + (subE M l - l - 1) = subE M l by omega, Dist.dS_end' _ _ _ _ _ _ _ h1.2]
theorem vN_step {L M : List Nd} {k l i j : Nat} (hk : k < L.length) (hl : l < M.length) (hi : i < subE L k - k - 1) (hj : j < subE M l - l - 1) (F : Nat → Nat → Int) (hF : F (k + 1 + i) (l + 1 + j) = dB L M (k + 1 + i) (l + 1 + j)) :
    vN L M k l i j = min (min (vN L M k l (i + 1) j) (vN L M k l i (j + 1)) + 1) (prd F L M (k + 1 + i) (l + 1 + j) + vN L M k l (subE L (k + 1 + i) - k - 1) (subE M (l + 1 + j) - l - 1)) ∧
    subE L (k + 1 + i) - k - 1 ≤ subE L k - k - 1 ∧ subE M (l + 1 + j) - l - 1 ≤ subE M l - l - 1 ∧ i < subE L (k + 1 + i) - k - 1 ∧ j < subE M (l + 1 + j) - l - 1 := by
  have h1 := subE_le hk; have h2 := subE_le hl
  have hu : k + 1 + i < L.length := by omega
  have hv : l + 1 + j < M.length := by omega
  have s1 := subE_sub hu; have s2 := subE_sub hv
  have e1 := s1.inside (subE_sub hk) (by omega) (by omega)
  have e2 := s2.inside (subE_sub hl) (by omega) (by omega)
  have q1 := s1.lt; have q2 := s2.lt
  obtain ⟨x, hx⟩ : ∃ x, L[k + 1 + i]? = some x := ⟨_, List.getElem?_eq_getElem hu⟩
  obtain ⟨y, hy⟩ : ∃ y, M[l + 1 + j]? = some y := ⟨_, List.getElem?_eq_getElem hv⟩
  refine ⟨?_, by omega, by omega, by omega, by omega⟩
  rw [prd, hx, hy]
  simp only [hF, dB, vN, dN]
  rw [Dist.dS_step (h := lab) s1 s2 e1 e2 hx hy]
  rw [show k + 1 + (i + 1) = k + 1 + i + 1 by omega, show l + 1 + (j + 1) = l + 1 + j + 1 by omega, show k + 1 + (subE L (k + 1 + i) - k - 1) = subE L (k + 1 + i) by omega, show l + 1 + (subE M (l + 1 + j) - l - 1) = subE M (l + 1 + j) by omega]
  omega

end Go.Proofs.Ytabafeckdclekaa
