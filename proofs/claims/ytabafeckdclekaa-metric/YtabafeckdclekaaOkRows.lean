import Derived.Test.YtabafeckdclekaaOut
import Derived.Test.YtabafeckdclekaaPure1
namespace Go.Proofs.Ytabafeckdclekaa
set_option maxRecDepth 100000
open Go.RowKit

theorem kinds_small3 (g : G) : ∀ kd ∈ kindsOf (body g), kd.size ≤ 1000 := by
  have h : (kindsOf (body g)).all (fun kd => decide (kd.size ≤ 1000)) = true := by cases g <;> decide
  intro kd hk
  exact of_decide_eq_true (List.all_eq_true.1 h kd hk)
/-- What a text that is a program reads as. -/
theorem ok_rows {s : ByteArray} {nodes : List Nd} (h : outT s = .ok nodes) : ∃ l, nodes = (nodeR kProgram l).map (toNd 0) ∧ RC 0 l ∧ 1 ≤ l.length ∧ l.length ≤ 79 ∧ ∀ x ∈ l, x.deep ≤ 1000 ∧ x.text.size ≤ 1000 := by
  obtain ⟨l0, j, hs, hp, rfl, hlen, _⟩ := outT_mod h
  have fa := rowsG _ _ _ _ _ _ hp
  have hq := propG (scanL s 0) (fun x => x.text.size ≤ 1000) (fun x h => h) (fun t ht => by have := scanL_text s 0 t ht; show t.text.size ≤ _; omega) kinds_small3 _ _ _ _ _ hp
  obtain ⟨l1, l2, k, rfl, h1, h2⟩ := parseT_node hp
  have hl2 : ∃ t ∈ scanL s 0, l2 = [⟨0, false, t.text⟩] := by
    simp only [Ab] at h2
    split at h2
    · rename_i t ht
      split at h2
      · cases h2
        exact ⟨t, List.mem_of_getElem? ht, rfl⟩
      · cases h2
    · cases h2
  obtain ⟨t, ht, rfl⟩ := hl2
  have sh := (shG (scanL s 0) _ _ _ _ _ h1).rc
  have e0 : (nodeR kProgram (l1 ++ [(⟨0, false, t.text⟩ : Rw)])).length = (l1 ++ [(⟨0, false, t.text⟩ : Rw)]).length + 1 := by simp [nodeR]
  refine ⟨_, rfl, sh.append ⟨Nat.le_refl _, trivial⟩, by simp, by omega, fun x hx => ?_⟩
  have hx' : x.up ∈ nodeR kProgram (l1 ++ [⟨0, false, t.text⟩]) := List.mem_cons_of_mem _ (List.mem_map_of_mem hx)
  have d := fa.deep _ hx'
  have e := hq _ hx'
  have hl := scanL_len s 0 (Nat.zero_le _)
  refine ⟨?_, e⟩
  have : x.up.deep = x.deep + 1 := rfl
  omega

end Go.Proofs.Ytabafeckdclekaa
