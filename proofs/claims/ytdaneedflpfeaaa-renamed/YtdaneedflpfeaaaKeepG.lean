import Derived.Test.YtdaneedflpfeaaaKeepF
namespace Go.Proofs.Ytdaneedflpfeaaa
set_option maxRecDepth 100000
open Go.RowKit

/-! ## A function that does nothing, whatever its name -/
theorem suf_mk (P Q : List UInt8) : Suf (mk (P ++ Q)) (mk Q) P.length := by
  refine ⟨by rw [mk_size, mk_size, List.length_append], ?_⟩
  show (P ++ Q).toArray.toList.drop P.length = Q.toArray.toList
  simp
theorem bt_mk (l : List UInt8) (i : Nat) (c : UInt8) (h : l[i]? = some c) : bt (mk l) i = (c.toNat : Int) := by
  have hi := (List.getElem?_eq_some_iff.1 h).1
  rw [bt_in (by rw [mk_size]; exact hi)]
  obtain ⟨_, e⟩ := List.getElem?_eq_some_iff.1 h
  rw [← e]
  rfl
def voidB : List UInt8 := [118, 111, 105, 100]
/-- A name, as a token. -/
structure Nam (W : List UInt8) : Prop where
  first : ∃ ws, W = 110 :: ws
  word : ∀ c ∈ W, wordB (c.toNat : Int) = true
theorem nam_kind {W : List UInt8} (h : Nam W) : kindB (mk W) = kName := by
  obtain ⟨ws, rfl⟩ := h.first
  have hb : bt (mk (110 :: ws)) 0 = 110 := bt_mk _ 0 110 rfl
  rw [kindB_F]
  unfold kindF
  rw [hb]
  have e1 : (mk (110 :: ws)).data.toList = 110 :: ws := by show (110 :: ws).toArray.toList = _; simp
  rw [e1]
  have e2 : isTy (110 :: ws) = false := by simp [isTy]
  have e3 : isKw (110 :: ws) = false := by simp [isKw]
  rw [e2, e3]
  rfl
theorem scan_void (W B : List UInt8) (hW : Nam W) : scanL (mk (voidB ++ (32 :: (W ++ 40 :: B)))) 0 = ⟨kType, mk voidB, 0⟩ :: ⟨kName, mk (32 :: W), 4 + 1⟩ :: ((scanL (mk (40 :: B)) 0).map (movT (1 + W.length))).map (movT 4) := by
  obtain ⟨ws, hws⟩ := hW.first
  have hlen : 0 < W.length := by rw [hws]; simp
  -- the first token
  have hs1 := suf_mk voidB (32 :: (W ++ 40 :: B))
  have b0 : ∀ j c, (voidB ++ (32 :: (W ++ 40 :: B)))[j]? = some c → bt (mk (voidB ++ (32 :: (W ++ 40 :: B)))) j = (c.toNat : Int) := fun j c h => bt_mk _ j c h
  have z0 : (mk (voidB ++ (32 :: (W ++ 40 :: B)))).size = 4 + (1 + (W.length + (1 + B.length))) := by rw [mk_size]; simp [voidB]; omega
  have p0 : aheadE (mk (voidB ++ (32 :: (W ++ 40 :: B)))) 0 = 0 := by
    refine aheadE_stop ?_
    unfold pieceE pairB
    rw [b0 0 118 rfl, if_neg (by omega), if_neg (by decide), if_neg (by simp), if_neg (by simp)]
    omega
  have t0 : tokenE (mk (voidB ++ (32 :: (W ++ 40 :: B)))) 0 = 4 := by
    unfold tokenE
    rw [if_neg (by omega), b0 0 118 rfl, if_pos (by decide)]
    refine run_to wordB _ 4 0 4 (by omega) (by omega) (by omega) (fun j h1 h2 => ?_) (fun _ => by rw [b0 4 32 rfl]; decide)
    rcases (by omega : j = 0 ∨ j = 1 ∨ j = 2 ∨ j = 3) with rfl | rfl | rfl | rfl
    · rw [b0 0 118 rfl]; decide
    · rw [b0 1 111 rfl]; decide
    · rw [b0 2 105 rfl]; decide
    · rw [b0 3 100 rfl]; decide
  have x0 : (mk (voidB ++ (32 :: (W ++ 40 :: B)))).extract 0 4 = mk voidB := by
    rw [ext_mkK]
    show mk (((voidB ++ (32 :: (W ++ 40 :: B))).toArray.toList.drop 0).take (4 - 0)) = _
    simp [voidB]
  rw [scanL_go (Nat.zero_le _) p0 t0 (by omega), x0, show scanL (mk (voidB ++ (32 :: (W ++ 40 :: B)))) 4 = _ from hs1.scan _ 0 (Nat.le_refl _) (Nat.zero_le _)]
  -- the second
  have b1 : ∀ j c, (32 :: (W ++ 40 :: B))[j]? = some c → bt (mk (32 :: (W ++ 40 :: B))) j = (c.toNat : Int) := fun j c h => bt_mk _ j c h
  have z1 : (mk (32 :: (W ++ 40 :: B))).size = 1 + (W.length + (1 + B.length)) := by rw [mk_size]; simp; omega
  have hfirst : (32 :: (W ++ 40 :: B))[1]? = some 110 := by rw [hws]; rfl
  have p1 : aheadE (mk (32 :: (W ++ 40 :: B))) 0 = 1 := by
    have e : pieceE (mk (32 :: (W ++ 40 :: B))) 0 = 1 := by
      unfold pieceE
      rw [b1 0 32 rfl, if_neg (by omega), if_pos (by decide)]
    rw [aheadE_go (by rw [e]; omega), e]
    refine aheadE_stop ?_
    unfold pieceE pairB
    rw [b1 1 110 hfirst, if_neg (by omega), if_neg (by decide), if_neg (by simp), if_neg (by simp)]
    omega
  have hWj : ∀ j, j < W.length → ∃ c ∈ W, (32 :: (W ++ 40 :: B))[1 + j]? = some c := fun j hj => ⟨W[j], List.getElem_mem hj, by rw [Nat.add_comm, List.getElem?_cons_succ, List.getElem?_append_left hj, List.getElem?_eq_getElem hj]⟩
  have hend : (32 :: (W ++ 40 :: B))[1 + W.length]? = some 40 := by rw [Nat.add_comm, List.getElem?_cons_succ, List.getElem?_append_right (Nat.le_refl _), Nat.sub_self]; rfl
  have t1 : tokenE (mk (32 :: (W ++ 40 :: B))) 1 = 1 + W.length := by
    unfold tokenE
    rw [if_neg (by omega), b1 1 110 hfirst, if_pos (by decide)]
    refine run_to wordB _ W.length 1 (1 + W.length) (by omega) (by omega) (by omega) (fun j h1 h2 => ?_) (fun _ => by rw [b1 _ 40 hend]; decide)
    obtain ⟨i, rfl⟩ : ∃ i, j = 1 + i := ⟨j - 1, by omega⟩
    obtain ⟨c, hc, hj⟩ := hWj i (by omega)
    rw [b1 _ c hj]
    exact hW.word c hc
  have x1 : (mk (32 :: (W ++ 40 :: B))).extract 1 (1 + W.length) = mk W := by
    rw [ext_mkK]
    show mk (((32 :: (W ++ 40 :: B)).toArray.toList.drop 1).take (1 + W.length - 1)) = _
    simp
  have x2 : (mk (32 :: (W ++ 40 :: B))).extract 0 (1 + W.length) = mk (32 :: W) := by
    rw [ext_mkK]
    show mk (((32 :: (W ++ 40 :: B)).toArray.toList.drop 0).take (1 + W.length - 0)) = _
    rw [Nat.add_comm 1]
    simp
  have hs2 := suf_mk (32 :: W) (40 :: B)
  rw [List.cons_append, List.length_cons, Nat.add_comm W.length 1] at hs2
  rw [scanL_go (Nat.zero_le _) p1 t1 (by omega), x1, x2, nam_kind hW, show scanL (mk (32 :: (W ++ 40 :: B))) (1 + W.length) = _ from hs2.scan _ 0 (Nat.le_refl _) (Nat.zero_le _)]
  have hk : kindB (mk voidB) = kType := by rw [kindB_F]; decide
  rw [hk]
  rfl
theorem out_of {s : ByteArray} {l : List Rw} {j : Nat} (hs : s.size ≤ 600) (hp : parseT (scanL s 0) = some (.ok l j)) (hd : innerD (l.map (toNd 0)) ≤ 20) (hl : l.length ≤ 80) : outT s = .ok (l.map (toNd 0)) := by
  unfold outT
  rw [if_neg (by omega), hp]
  simp only
  rw [if_neg (by omega), if_neg (by omega)]

end Go.Proofs.Ytdaneedflpfeaaa
