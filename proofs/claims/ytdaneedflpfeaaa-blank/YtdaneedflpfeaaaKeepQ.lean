import Derived.Test.YtdaneedflpfeaaaKeepP
namespace Go.Proofs.Ytdaneedflpfeaaa
set_option maxRecDepth 100000
open Go.RowKit

theorem close_to (s : ByteArray) : ∀ (n j e : Nat), e - j ≤ n → j ≤ e → e < s.size → (∀ i, j ≤ i → i < e → pairB s i 42 47 = false) → pairB s e 42 47 = true → closeE s j = some (e + 2) := by
  intro n
  induction n with
  | zero =>
    intro j e h1 h2 h3 h4 h5
    have : j = e := by omega
    subst this
    rw [closeE, dif_pos h3, if_pos h5]
  | succ n ih =>
    intro j e h1 h2 h3 h4 h5
    by_cases q : j = e
    · subst q; rw [closeE, dif_pos h3, if_pos h5]
    · rw [closeE, dif_pos (by omega), if_neg (by rw [h4 j (Nat.le_refl _) (by omega)]; decide)]
      exact ih (j + 1) e (by omega) (by omega) h3 (fun i a b => h4 i (by omega) b) h5
theorem bt_none (l : List UInt8) (i : Nat) (h : l[i]? = none) : bt (mk l) i = -1 := by
  rw [bt_out]; rw [mk_size]; exact List.getElem?_eq_none_iff.1 h
/-- A comment of a line, and one behind it. -/
def comm (w z : List UInt8) : List UInt8 := [47, 47] ++ (w ++ (10 :: 47 :: 42 :: (z ++ [32, 42, 47])))
theorem comm_ahead (w z : List UInt8) (hw : ∀ c ∈ w, c ≠ 10) (hz : ∀ c ∈ z, c ≠ 47) : aheadE (mk (comm w z ++ [125])) 0 = (comm w z).length := by
  -- the second comment
  have hB3 : closeE (mk (z ++ [32, 42, 47, 125])) 0 = some (z.length + 1 + 2) := by
    refine close_to _ _ 0 (z.length + 1) (Nat.le_refl _) (Nat.zero_le _) (by rw [mk_size]; simp) (fun i _ hi => ?_) ?_
    · unfold pairB
      have : bt (mk (z ++ [32, 42, 47, 125])) (i + 1) ≠ 47 := by
        rcases Nat.lt_trichotomy (i + 1) z.length with q | q | q
        · rw [bt_mk _ (i + 1) z[i + 1] (by rw [List.getElem?_append_left q, List.getElem?_eq_getElem q])]
          have := hz _ (List.getElem_mem q)
          intro e
          exact this (UInt8.toNat_inj.1 (by show _ = 47; omega))
        · rw [bt_mk _ (i + 1) 32 (by rw [List.getElem?_append_right (by omega), q, Nat.sub_self]; rfl)]; decide
        · have e : i + 1 = z.length + 1 := by omega
          rw [e, bt_mk _ _ 42 (by rw [List.getElem?_append_right (by omega), show z.length + 1 - z.length = 1 by omega]; rfl)]; decide
      rw [beq_eq_false_iff_ne.2 this, Bool.and_false]
    · unfold pairB
      rw [bt_mk _ (z.length + 1) 42 (by rw [List.getElem?_append_right (by omega), show z.length + 1 - z.length = 1 by omega]; rfl), bt_mk _ (z.length + 1 + 1) 47 (by rw [List.getElem?_append_right (by omega), show z.length + 1 + 1 - z.length = 2 by omega]; rfl)]
      decide
  have s3 := suf_mk [47, 42] (z ++ [32, 42, 47, 125])
  have hB2 : aheadE (mk (47 :: 42 :: (z ++ [32, 42, 47, 125]))) 0 = z.length + 5 := by
    have hp : pieceE (mk (47 :: 42 :: (z ++ [32, 42, 47, 125]))) 0 = z.length + 5 := by
      unfold pieceE commentE pairB
      rw [bt_mk _ 0 47 rfl, bt_mk _ (0 + 1) 42 rfl, if_neg (by rw [mk_size]; simp), if_neg (by decide), if_neg (by decide), if_pos (by decide)]
      have := s3.close 0
      rw [hB3] at this
      show (closeE (mk ([47, 42] ++ (z ++ [32, 42, 47, 125]))) (0 + 2)).getD 0 = _
      rw [show 0 + 2 = [(47 : UInt8), 42].length + 0 from rfl, this]
      simp; omega
    rw [aheadE_go (by rw [hp]; omega), hp]
    refine aheadE_stop ?_
    have hb : bt (mk (47 :: 42 :: (z ++ [32, 42, 47, 125]))) (z.length + 5) = 125 := by
      rw [bt_mk _ _ 125 (by rw [List.getElem?_cons_succ, List.getElem?_cons_succ, List.getElem?_append_right (by omega), show z.length + 3 - z.length = 3 by omega]; rfl)]; rfl
    unfold pieceE pairB
    rw [hb, if_neg (by rw [mk_size]; simp), if_neg (by decide), if_neg (by simp), if_neg (by simp)]
    omega
  have s2 := suf_mk [10] (47 :: 42 :: (z ++ [32, 42, 47, 125]))
  have hB1 : aheadE (mk (10 :: 47 :: 42 :: (z ++ [32, 42, 47, 125]))) 0 = z.length + 6 := by
    have hp : pieceE (mk (10 :: 47 :: 42 :: (z ++ [32, 42, 47, 125]))) 0 = 1 := by
      unfold pieceE
      rw [bt_mk _ 0 10 rfl, if_neg (by rw [mk_size]; simp), if_pos (by decide)]
    rw [aheadE_go (by rw [hp]; omega), hp]
    have := s2.ahead 0
    rw [hB2] at this
    show aheadE (mk ([10] ++ (47 :: 42 :: (z ++ [32, 42, 47, 125])))) 1 = _
    rw [show (1 : Nat) = [(10 : UInt8)].length + 0 from rfl, this]
    simp; omega
  have e0 : comm w z ++ [125] = (47 :: 47 :: w) ++ (10 :: 47 :: 42 :: (z ++ [32, 42, 47, 125])) := by unfold comm; simp
  have s1 := suf_mk (47 :: 47 :: w) (10 :: 47 :: 42 :: (z ++ [32, 42, 47, 125]))
  rw [e0]
  have hlen : (47 :: 47 :: w).length = w.length + 2 := by simp
  have hp : pieceE (mk ((47 :: 47 :: w) ++ (10 :: 47 :: 42 :: (z ++ [32, 42, 47, 125])))) 0 = w.length + 2 := by
    unfold pieceE pairB
    rw [bt_mk _ 0 47 rfl, bt_mk _ (0 + 1) 47 rfl, if_neg (by rw [mk_size]; simp), if_neg (by decide), if_pos (by decide)]
    refine run_to noLf _ _ 0 (w.length + 2) (Nat.le_refl _) (Nat.zero_le _) (by rw [mk_size]; simp) (fun j _ hj => ?_) (fun _ => ?_)
    · have hj' : j < (47 :: 47 :: w).length := by omega
      rw [bt_mk _ j ((47 :: 47 :: w)[j]) (by rw [List.getElem?_append_left hj', List.getElem?_eq_getElem hj'])]
      have hm := List.getElem_mem hj'
      generalize (47 :: 47 :: w)[j] = c at hm
      have hc : c ≠ 10 := by
        rcases List.mem_cons.1 hm with rfl | hm
        · decide
        · rcases List.mem_cons.1 hm with rfl | hm
          · decide
          · exact hw c hm
      simp only [noLf, bne_iff_ne, ne_eq]
      intro e
      exact hc (UInt8.toNat_inj.1 (by show _ = 10; omega))
    · rw [bt_mk _ _ 10 (by rw [List.getElem?_append_right (by omega), hlen, Nat.sub_self]; rfl)]; decide
  rw [aheadE_go (by rw [hp]; omega), hp]
  have := s1.ahead 0
  rw [hB1, hlen, Nat.add_zero] at this
  rw [this]
  unfold comm
  simp
  omega
theorem texts_take (toks : List Tok) (j : Nat) : texts toks 0 j = (toks.map (·.text)).take j := by
  unfold texts
  rw [List.drop_zero, Nat.sub_zero, List.map_take]
theorem parts_one {α : Type} [DecidableEq α] (A B : List α) (x y : α) (j : Nat) : partsN ((A ++ x :: B).take j) ((A ++ y :: B).take j) ≤ 1 := by
  induction A generalizing j with
  | nil => cases j with
    | zero => simp [partsN]
    | succ j =>
      simp only [List.nil_append, List.take_succ_cons, partsN]
      have : ∀ l : List α, partsN l l = 0 := fun l => by
        induction l with
        | nil => rfl
        | cons a l ih => rw [partsN, ih, Dist.rel_self]
      rw [this]
      have := Dist.rel_le x y
      omega
  | cons a A ih => cases j with
    | zero => simp [partsN]
    | succ j =>
      simp only [List.cons_append, List.take_succ_cons, partsN, Dist.rel_self]
      have := ih j
      omega
/-- With comments ahead of the last bracket: a program, one step from the other. -/
theorem blank_pure {s : ByteArray} {l : List Rw} (hl : Prg s l) {m : Nat} (hs : s.size = m + 1) (h125 : bt s m = 125) (hno : isOk (outT (s.extract 0 m)) = false) (w z : List UInt8) (hw : ∀ c ∈ w, c ≠ 10) (hz : ∀ c ∈ z, c ≠ 47)
    (ht : (mk (s.data.toList.take m ++ (comm w z ++ [125]))).size ≤ 600) : ∃ l', Prg (mk (s.data.toList.take m ++ (comm w z ++ [125]))) l' ∧ dlR l l' = 1 := by
  obtain ⟨l0, j, hs6, hp, _, _, _⟩ := outT_mod hl.out
  obtain ⟨k, _, hkE, hend⟩ := parse_end hp
  have hE : ∃ x ∈ scanL s 0, x.kind = kEnd := by
    unfold kindA at hkE
    split at hkE
    · exact absurd hkE (by decide)
    · rename_i x hx; exact ⟨x, List.mem_of_getElem? hx, hkE⟩
  obtain ⟨A, i', hch, hi', hah, hsc⟩ := chn_ex (s := s) (m := m) (by omega) h125 _ 0 (Nat.le_refl _) (Nat.zero_le _) hE
  have hcut := pfx_cut (s := s) (m := m) (by omega) h125
  have hbd := aheadE_bd s i' (by omega)
  rcases Nat.lt_or_ge m (aheadE s i') with hov | hle
  · -- the bracket stands in a comment: without it this is a program too
    exfalso
    have ea : aheadE s i' = m + 1 := by omega
    have e1 : scanL s i' = [⟨kEnd, s.extract i' (m + 1), m + 1⟩] := by
      have tk := tokenE_bd s (m + 1) (by omega)
      rw [scanL_stop ea (by omega), if_neg (by omega)]
    have hz0 : (s.extract 0 m).size = m := by rw [ByteArray.size_extract]; omega
    have e2 : aheadE (s.extract 0 m) i' = m := ahead_over hcut hs _ i' (Nat.le_refl _) hi' hov
    have e3 : scanL (s.extract 0 m) i' = [⟨kEnd, (s.extract 0 m).extract i' m, m⟩] := by
      have tk := tokenE_bd (s.extract 0 m) m (by omega)
      rw [scanL_stop e2 (by omega), if_neg (by omega)]
    have e4 := chn_t hcut hch (Nat.zero_le _) (fun q => by omega)
    obtain ⟨l', _, hl', _⟩ := same_kinds hl (t := s.extract 0 m) (by rw [hsc, e4, e1, e3, List.map_append, List.map_append]; rfl) (by omega)
    rw [hl'.ok] at hno
    cases hno
  · have ea : aheadE s i' = m := by omega
    have tm : tokenE s m = m + 1 := by
      unfold tokenE signE
      have hlg : longB s m = false := by unfold longB; rw [decide_eq_false (by omega)]; rfl
      have hpr : pairB s m 47 42 = false := by unfold pairB; rw [h125]; rfl
      rw [h125, hlg, hpr, if_neg (by omega), if_neg (by decide), if_neg (by decide)]
      simp [shortB]
    have hdrop : s.data.toList.drop m = [125] := by
      have hml : m < s.data.toList.length := by show m < s.size; omega
      rw [List.drop_eq_getElem_cons hml, List.drop_of_length_le (by show s.size ≤ m + 1; omega)]
      congr 1
      have := h125
      rw [bt_in (by omega)] at this
      exact UInt8.toNat_inj.1 (by show (s[m]'(by omega)).toNat = 125; omega)
    have kc : kindB (s.extract m (m + 1)) = kC := by
      rw [ext_mkK, hdrop, show m + 1 - m = 1 by omega]
      rw [kindB_F]; decide
    have hemp : ∀ (x : ByteArray) (n : Nat), x.extract n n = ⟨#[]⟩ := fun x n => by rw [ext_mkK, Nat.sub_self, List.take_zero]; rfl
    have send : scanL s (m + 1) = [⟨kEnd, ⟨#[]⟩, m + 1⟩] := by
      have a1 : aheadE s (m + 1) = m + 1 := aheadE_stop (by rw [pieceE_out (by omega)]; omega)
      have tk := tokenE_bd s (m + 1) (by omega)
      rw [scanL_stop a1 (by omega), if_neg (by omega), hemp]
    have e1 : scanL s i' = [⟨kC, s.extract i' (m + 1), m⟩, ⟨kEnd, ⟨#[]⟩, m + 1⟩] := by
      rw [scanL_go (by omega) ea tm (by omega), kc, send]
    -- no division ahead of it
    have h47 : ∀ x ∈ A, x.place + 1 = m → bt s x.place ≠ 47 := by
      intro x hx hxm hb
      obtain ⟨q1, q2⟩ := chn_last (by omega) hch x hx hxm
      have hAne : A ≠ [] := by intro e; rw [e] at hx; cases hx
      have hkk : x.kind = ⟨#[47]⟩ := by
        rw [q2, ext_mkK]
        have hpl : m - 1 < s.data.toList.length := by show m - 1 < s.size; omega
        rw [List.drop_eq_getElem_cons hpl, show m - (m - 1) = 1 by omega, List.take_succ_cons, List.take_zero]
        have : (s.data.toList[m - 1]'hpl) = 47 := by
          rw [show x.place = m - 1 by omega, bt_in (by omega)] at hb
          exact UInt8.toNat_inj.1 (by show (s[m - 1]'(by omega)).toNat = 47; omega)
        rw [this, kindB_F]; decide
      have hkinds : ∀ y ∈ A, y.kind ≠ kEnd := by
        have : ∀ {i A i'}, Chn s m i A i' → ∀ y ∈ A, y.kind ≠ kEnd := by
          intro i A i' hc
          induction hc with
          | nil => intro y hy; cases hy
          | cons _ _ _ _ ih =>
            intro y hy
            rcases List.mem_cons.1 hy with rfl | hy
            · exact kindB_end _
            · exact ih y hy
        exact this hch
      have hkA : k = A.length + 1 := by
        unfold kindA at hkE
        rw [hsc, e1] at hkE
        rcases Nat.lt_trichotomy k A.length with r | r | r
        · rw [List.getElem?_append_left r, List.getElem?_eq_getElem r] at hkE
          exact absurd hkE (hkinds _ (List.getElem_mem r))
        · rw [List.getElem?_append_right (by omega), r, Nat.sub_self] at hkE
          exact absurd (show kC = kEnd from hkE) (by decide)
        · rcases Nat.lt_or_ge (A.length + 1) k with r' | r'
          · rw [List.getElem?_eq_none (by rw [List.length_append]; show A.length + 2 ≤ k; omega)] at hkE
            exact absurd hkE (by decide)
          · omega
      rcases hend with r | r
      · omega
      · have r3 := r.2.2
        have hAl : 0 < A.length := List.length_pos_iff.2 hAne
        have : kindA (scanL s 0) (k - 2) = ⟨#[47]⟩ := by
          unfold kindA
          rw [hsc, hkA, show A.length + 1 - 2 = A.length - 1 by omega, List.getElem?_append_left (by omega)]
          rw [List.getLast?_eq_getElem?] at q1
          rw [q1]
          exact hkk
        rw [this] at r3
        revert r3
        decide
    -- the other text
    have hP : Pfx s (mk (s.data.toList.take m ++ (comm w z ++ [125]))) m 47 := by
      have hlen : (s.data.toList.take m).length = m := by rw [List.length_take]; show min m s.size = m; omega
      refine ⟨by omega, by rw [mk_size, List.length_append]; omega, ?_, h125, ?_, .inl ⟨rfl, by rw [mk_size, List.length_append, hlen]; simp [comm]⟩⟩
      · show _ = (s.data.toList.take m ++ (comm w z ++ [125])).toArray.toList.take m
        rw [List.toList_toArray, List.take_append_of_le_length (show m ≤ (s.data.toList.take m).length by omega), List.take_take, Nat.min_self]
      · exact bt_mk _ m 47 (by rw [List.getElem?_append_right (by omega), hlen, Nat.sub_self]; rfl)
    have hlen : (s.data.toList.take m).length = m := by rw [List.length_take]; show min m s.size = m; omega
    have hS := suf_mk (s.data.toList.take m) (comm w z ++ [125])
    rw [hlen] at hS
    have e4 := chn_t hP hch (Nat.zero_le _) (fun _ => h47)
    generalize hT : mk (s.data.toList.take m ++ (comm w z ++ [125])) = T at *
    have hTs : T.size = m + (comm w z).length + 1 := by rw [← hT, mk_size, List.length_append, hlen, List.length_append]; simp; omega
    have ta : aheadE T i' = m + (comm w z).length := by
      rw [(hP.ahead _ i' (Nat.le_refl _) hi' (by omega)).2 ea]
      have := hS.ahead 0
      rw [Nat.add_zero, comm_ahead w z hw hz] at this
      exact this
    have tt : tokenE T (m + (comm w z).length) = m + (comm w z).length + 1 := by
      have b : bt T (m + (comm w z).length) = 125 := by
        rw [hS.bt, bt_mk _ _ 125 (by rw [List.getElem?_append_right (Nat.le_refl _), Nat.sub_self]; rfl)]; rfl
      unfold tokenE signE
      have hlg : longB T (m + (comm w z).length) = false := by unfold longB; rw [decide_eq_false (by omega)]; rfl
      have hpr : pairB T (m + (comm w z).length) 47 42 = false := by unfold pairB; rw [b]; rfl
      rw [b, hlg, hpr, if_neg (by omega), if_neg (by decide), if_neg (by decide)]
      simp [shortB]
    have tkc : kindB (T.extract (m + (comm w z).length) (m + (comm w z).length + 1)) = kC := by
      have := hS.ext (comm w z).length ((comm w z).length + 1)
      rw [show m + ((comm w z).length + 1) = m + (comm w z).length + 1 by omega] at this
      rw [this, ext_mkK]
      show kindB (mk (((comm w z ++ [125]).toArray.toList.drop (comm w z).length).take ((comm w z).length + 1 - (comm w z).length))) = _
      rw [List.toList_toArray, List.drop_left, show (comm w z).length + 1 - (comm w z).length = 1 by omega, kindB_F]
      decide
    have tend : scanL T (m + (comm w z).length + 1) = [⟨kEnd, ⟨#[]⟩, m + (comm w z).length + 1⟩] := by
      have a1 : aheadE T (m + (comm w z).length + 1) = m + (comm w z).length + 1 := aheadE_stop (by rw [pieceE_out (by omega)]; omega)
      have tk := tokenE_bd T (m + (comm w z).length + 1) (by omega)
      rw [scanL_stop a1 (by omega), if_neg (by omega), hemp]
    have e5 : scanL T i' = [⟨kC, T.extract i' (m + (comm w z).length + 1), m + (comm w z).length⟩, ⟨kEnd, ⟨#[]⟩, m + (comm w z).length + 1⟩] := by
      rw [scanL_go (by omega) ta tt (by omega), tkc, tend]
    obtain ⟨l', j', hl', hsh, x1, x2⟩ := same_kinds hl (t := T) (by rw [hsc, e4, e1, e5, List.map_append, List.map_append]; rfl) ht
    refine ⟨l', hl', ?_⟩
    have up : dlR l l' ≤ 1 := by
      refine Nat.le_trans (dlR_same (shp_deep hsh)) ?_
      rw [(parts_shape hsh).1, x1, x2, texts_take, texts_take, hsc, e4, e1, e5, List.map_append, List.map_append]
      exact parts_one _ _ _ _ _
    have lo : dlR l l' ≠ 0 := fun h0 => by
      have := (hl.zero hl').1 h0
      have := congrArg ByteArray.size this
      rw [hs, hTs] at this
      simp [comm] at this
    omega

end Go.Proofs.Ytdaneedflpfeaaa
