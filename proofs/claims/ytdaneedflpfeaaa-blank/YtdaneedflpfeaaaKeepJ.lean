import Derived.Test.YtdaneedflpfeaaaKeepI
namespace Go.Proofs.Ytdaneedflpfeaaa
set_option maxRecDepth 100000
open Go.RowKit

theorem mk_inj {l m : List UInt8} (h : mk l = mk m) : l = m := by
  have := congrArg (fun b : ByteArray => b.data.toList) h
  simpa [mk] using this
theorem void_name {X Y : ByteArray} (h : (voidR X []).map labW = (voidR Y []).map labW) : X = Y := by
  simp [voidR, labW] at h
  exact h
theorem parts_void (X Y : ByteArray) : partsN ((voidR X []).map labW) ((voidR Y []).map labW) ≤ 1 := by
  simp only [voidR, List.nil_append, List.map_cons, List.map_nil, labW, partsN, Dist.rel_self]
  have := Dist.rel_le ((false, X) : Bool × ByteArray) (false, Y)
  omega
def far (W V : List UInt8) : Nat := if W = V then 0 else 1
theorem ren0 (W V : List UInt8) : dlR (voidR (mk (32 :: W)) []) (voidR (mk (32 :: V)) []) = far W V := by
  unfold far
  split
  · rename_i e; rw [e]; exact dlR_self _
  · rename_i e
    have h1 := Nat.le_trans (dlR_same (l := voidR (mk (32 :: W)) []) (m := voidR (mk (32 :: V)) []) rfl) (parts_void _ _)
    have h2 : dlR (voidR (mk (32 :: W)) []) (voidR (mk (32 :: V)) []) ≠ 0 := fun h => by
      have := mk_inj (void_name (dlR_zero h))
      simp at this
      exact e this
    omega
theorem stm_deep (k : Fin 7) : (∀ x ∈ stmR k, 2 ≤ x.deep) ∧ ∀ x, (stmR k).head? = some x → x.deep ≤ 2 := by
  constructor
  · revert k; decide
  · intro x hx
    have : ∀ k : Fin 7, ((stmR k).head?.all fun x => decide (x.deep ≤ 2)) = true := by decide
    have h := this k
    rw [hx] at h
    simpa using h
/-- No other label is a name's. -/
def notName (b : Bool × ByteArray) : Bool := b.1 || match b.2.data.toList with | 32 :: 110 :: _ => false | _ => true
theorem stm_not (k : Fin 7) : ((stmR k).all fun x => notName (labW x)) = true := by revert k; decide
theorem ren1 {W V : List UInt8} (hW : Nam W) (k : Fin 7) : dlR (voidR (mk (32 :: W)) []) (voidR (mk (32 :: V)) (stmR k)) = far W V + (stmR k).length := by
  have hd := stm_deep k
  have hu := dlR_tri (voidR (mk (32 :: W)) []) (voidR (mk (32 :: V)) (stmR k)) (voidR (mk (32 :: V)) [])
  have hm := ed_more (mk (32 :: V)) (stmR k) hd.1 hd.2
  rw [ren0] at hu
  have hlen := voidR_len (mk (32 :: V)) (stmR k)
  have hlow : far W V + (stmR k).length ≤ dlR (voidR (mk (32 :: W)) []) (voidR (mk (32 :: V)) (stmR k)) := by
    unfold far
    split
    · have := dlR_low (fun _ => true) (voidR (mk (32 :: W)) []) (voidR (mk (32 :: V)) (stmR k)) (fun x _ => rfl)
      have h2 := List.countP_le_length (p := fun _ : Bool × ByteArray => true) (l := (voidR (mk (32 :: W)) []).map labW)
      rw [List.length_map, voidR_len, List.length_nil] at h2
      omega
    · rename_i e
      obtain ⟨ws, hws⟩ := hW.first
      have hnn : notName (false, mk (32 :: W)) = false := by
        unfold notName
        have : (mk (32 :: W)).data.toList = 32 :: 110 :: ws := by rw [hws]; show (32 :: 110 :: ws).toArray.toList = _; simp
        rw [this]; rfl
      have := dlR_low (fun b => decide (b ≠ (false, mk (32 :: W)))) (voidR (mk (32 :: W)) []) (voidR (mk (32 :: V)) (stmR k)) (fun x hx => by
        have key : ∀ b : Bool × ByteArray, notName b = true → decide (b ≠ (false, mk (32 :: W))) = true := fun b hb => by
          refine decide_eq_true fun e => ?_
          rw [e, hnn] at hb; cases hb
        unfold voidR at hx
        simp only [List.mem_cons, List.mem_append, List.not_mem_nil, or_false] at hx
        rcases hx with rfl | rfl | rfl | rfl | rfl | rfl | rfl | hx | rfl | rfl
        · exact key _ (by decide)
        · exact key _ (by decide)
        · refine decide_eq_true fun q => ?_
          simp only [labW, Prod.mk.injEq, true_and] at q
          have := mk_inj q
          simp at this
          exact e this.symm
        · exact key _ (by decide)
        · exact key _ (by decide)
        · exact key _ (by decide)
        · exact key _ (by decide)
        · exact key _ (List.all_eq_true.1 (stm_not k) x hx)
        · exact key _ (by decide)
        · exact key _ (by decide))
      have h2 : ((voidR (mk (32 :: W)) []).map labW).countP (fun b => decide (b ≠ (false, mk (32 :: W)))) ≤ 8 := by
        have e1 : (voidR (mk (32 :: W)) []).map labW = ((voidR (mk (32 :: W)) []).map labW).take 2 ++ (false, mk (32 :: W)) :: ((voidR (mk (32 :: W)) []).map labW).drop 3 := rfl
        rw [e1, List.countP_append, List.countP_cons]
        have a1 := List.countP_le_length (p := fun b : Bool × ByteArray => decide (b ≠ (false, mk (32 :: W)))) (l := ((voidR (mk (32 :: W)) []).map labW).take 2)
        have a2 := List.countP_le_length (p := fun b : Bool × ByteArray => decide (b ≠ (false, mk (32 :: W)))) (l := ((voidR (mk (32 :: W)) []).map labW).drop 3)
        have l1 : (((voidR (mk (32 :: W)) []).map labW).take 2).length = 2 := rfl
        have l2 : (((voidR (mk (32 :: W)) []).map labW).drop 3).length = 6 := rfl
        rw [if_neg (by simp)]
        omega
      omega
  omega
/-- What word makes. -/
def tblW (c : UInt8) : UInt8 := match c.toNat % 8 with | 0 => 97 | 1 => 98 | 2 => 99 | 3 => 49 | 4 => 50 | 5 => 51 | 6 => 95 | _ => 88
def wordL (l : List UInt8) : List UInt8 := 110 :: (l.take 8).map tblW
theorem word_nam (l : List UInt8) : Nam (wordL l) := by
  refine ⟨⟨_, rfl⟩, fun c hc => ?_⟩
  rcases List.mem_cons.1 hc with rfl | hc
  · decide
  · obtain ⟨x, _, rfl⟩ := List.mem_map.1 hc
    unfold tblW
    split <;> decide
theorem word_len (l : List UInt8) : (wordL l).length ≤ 9 := by
  unfold wordL
  rw [List.length_cons, List.length_map, List.length_take]
  omega

end Go.Proofs.Ytdaneedflpfeaaa
