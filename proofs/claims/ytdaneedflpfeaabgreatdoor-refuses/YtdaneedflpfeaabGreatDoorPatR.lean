import Derived.Test.YtdaneedflpfeaabGreatDoorPatQ
namespace Go.Proofs.YtdaneedflpfeaabGreatDoor
set_option maxRecDepth 100000
open Go.RowKit

/-- i P I N LABEL. -/
def insN (l : List Nd) (p i n : Nat) (b : Bool) (t : ByteArray) : Option (List Nd) :=
  match l[p]? with
  | none => none
  | some x => if x.inner = false then none else if 0 < n ∧ b = false then none else
    if (pastE l (subE l p) i (p + 1)).2 = false ∨ (pastE l (subE l p) n (pastE l (subE l p) i (p + 1)).1).2 = false then none else
    some (l.take (pastE l (subE l p) i (p + 1)).1 ++ [⟨b, t, x.depth + 1⟩] ++ ((l.drop (pastE l (subE l p) i (p + 1)).1).take ((pastE l (subE l p) n (pastE l (subE l p) i (p + 1)).1).1 - (pastE l (subE l p) i (p + 1)).1)).map (shN 1) ++ l.drop (pastE l (subE l p) n (pastE l (subE l p) i (p + 1)).1).1)

set_option maxHeartbeats 12800000 in
theorem insert_any (l : List Nd) (p i n g cap : Nat) (kd : ByteArray) (b : Bool) (t : ByteArray) (w : World) (hl : l.length ≤ 1000000) (hcap : l.length ≤ cap) (hcm : cap ≤ maxLen) (hp : p ≤ 1000000) (hi : i ≤ 1000000) (hnn : n ≤ 1000000) (hd : Deep l) (hn : NA w g 0 l) :
    Calls Tryz.prog 54 #[.agg (stA kd p i n b t), .slice (some ⟨g, 0, none⟩) l.length cap] w fun e w' => ListR w (insN l p i n b t) e w' := by
  obtain ⟨i0, hi0, hz0, hz1, hz2⟩ := info_parts Tryz.infoNd
  have hgl := hn.lt
  by_cases hpl : l.length ≤ p
  · have HR : Hid (insN l p i n b t = none) := by show _ = _; rw [insN, List.getElem?_eq_none hpl]
    go_enter Tryz.func54, Tryz.ntmps54
    go_wp2_with fail
    go_ret2
    rw [unhide HR]
    exact ⟨(Below.refl _ _).alloc (Nat.le_refl _) _, rfl⟩
  have hpl' : p < l.length := by omega
  obtain ⟨x, hx⟩ : ∃ x, l[p]? = some x := ⟨_, List.getElem?_eq_getElem hpl'⟩
  have HI : Hid (insN l p i n b t = if x.inner = false then none else if 0 < n ∧ b = false then none else
    if (pastE l (subE l p) i (p + 1)).2 = false ∨ (pastE l (subE l p) n (pastE l (subE l p) i (p + 1)).1).2 = false then none else
    some (l.take (pastE l (subE l p) i (p + 1)).1 ++ [⟨b, t, x.depth + 1⟩] ++ ((l.drop (pastE l (subE l p) i (p + 1)).1).take ((pastE l (subE l p) n (pastE l (subE l p) i (p + 1)).1).1 - (pastE l (subE l p) i (p + 1)).1)).map (shN 1) ++ l.drop (pastE l (subE l p) n (pastE l (subE l p) i (p + 1)).1).1)) := by
    show insN l p i n b t = _
    simp only [insN, hx]
  obtain ⟨x0, x1, x2⟩ := hn.cell0 hx
  cases hxi : x.inner with
  | false =>
    rw [hxi] at x0
    have HR : Hid (insN l p i n b t = none) := by show _ = _; rw [unhide HI, if_pos hxi]
    clear HI hxi
    go_enter Tryz.func54, Tryz.ntmps54
    go_wp2_with fail
    go_ret2
    rw [unhide HR]
    exact ⟨(Below.refl _ _).alloc (Nat.le_refl _) _, rfl⟩
  | true =>
  rw [hxi] at x0
  by_cases hnb : 0 < n ∧ b = false
  · have HR : Hid (insN l p i n b t = none) := by show _ = _; rw [unhide HI, if_neg (by rw [hxi]; simp), if_pos hnb]
    obtain ⟨hn0, rfl⟩ := hnb
    clear HI hxi
    go_enter Tryz.func54, Tryz.ntmps54
    go_wp2_with fail
    go_ret2
    rw [unhide HR]
    exact ⟨(Below.refl _ _).alloc (Nat.le_refl _) _, rfl⟩
  have HI2 : Hid (insN l p i n b t = if (pastE l (subE l p) i (p + 1)).2 = false ∨ (pastE l (subE l p) n (pastE l (subE l p) i (p + 1)).1).2 = false then none else
    some (l.take (pastE l (subE l p) i (p + 1)).1 ++ [⟨b, t, x.depth + 1⟩] ++ ((l.drop (pastE l (subE l p) i (p + 1)).1).take ((pastE l (subE l p) n (pastE l (subE l p) i (p + 1)).1).1 - (pastE l (subE l p) i (p + 1)).1)).map (shN 1) ++ l.drop (pastE l (subE l p) n (pastE l (subE l p) i (p + 1)).1).1)) := by
    show insN l p i n b t = _
    rw [unhide HI, if_neg (by rw [hxi]; simp), if_neg hnb]
  have hsub := subE_le hpl'
  have hpf := pastE_le (l := l) (limit := subE l p) (by omega) i (p + 1) (by omega)
  have hpe := pastE_le (l := l) (limit := subE l p) (by omega) n (pastE l (subE l p) i (p + 1)).1 (by omega)
  have HSU : Hid (∀ wx, NA wx g 0 l → Calls Tryz.prog 66 #[.slice (some ⟨g, 0, none⟩) l.length cap, .int .i64 (p : Int)] wx fun e w' => e = .returned (.int .i64 (subE l p : Int)) ∧ Below wx.heap.size wx w') := fun wx h => subtreeEnd_any l p g cap wx hl hpl' h
  have HP1 : Hid (∀ wx, NA wx g 0 l → Calls Tryz.prog 73 #[.slice (some ⟨g, 0, none⟩) l.length cap, .int .i64 ((p : Int) + 1), .int .i64 (subE l p : Int), .int .i64 (i : Int)] wx fun e w' => e = pastR (pastE l (subE l p) i (p + 1)) ∧ Below wx.heap.size wx w') := fun wx h => by
    have := pastSubtrees_any l (p + 1) (subE l p) i g cap wx hl (by omega) (by omega) hi h
    exact this
  have HP2 : Hid (∀ wx, NA wx g 0 l → Calls Tryz.prog 73 #[.slice (some ⟨g, 0, none⟩) l.length cap, .int .i64 ((pastE l (subE l p) i (p + 1)).1 : Int), .int .i64 (subE l p : Int), .int .i64 (n : Int)] wx fun e w' => e = pastR (pastE l (subE l p) n (pastE l (subE l p) i (p + 1)).1) ∧ Below wx.heap.size wx w') := fun wx h =>
    pastSubtrees_any l _ (subE l p) n g cap wx hl (by omega) (by omega) hnn h
  generalize pastE l (subE l p) n (pastE l (subE l p) i (p + 1)).1 = E at *
  generalize pastE l (subE l p) i (p + 1) = F at *
  generalize subE l p = z at *
  obtain ⟨f, ok1⟩ := F
  obtain ⟨e, ok2⟩ := E
  have hpf1 : p + 1 ≤ f := hpf.1
  have hpf2 : f ≤ l.length := hpf.2
  have hpe1 : f ≤ e := hpe.1
  have hpe2 : e ≤ l.length := hpe.2
  have HN := hide hn
  have HX := hide hx
  have HD := hide hd
  have HNX : Hid (∀ o, NA (w.alloc o) g 0 l) := fun o => (unhide HN).heap (heap_alloc_old _ _ hgl)
  have hcm2 : (cap : Int) ≤ 9223372036854775807 := by unfold maxLen at hcm; omega
  have hxd := hd x (List.mem_of_getElem? hx)
  have HL1 : Hid (∀ wx off' cap', NA wx g off' (l.drop f) → Calls Tryz.prog 72 #[.slice (some ⟨g, off', none⟩) (e - f) cap', .int .i64 1] wx fun e' w' => Below wx.heap.size wx w' ∧ ∃ v, e' = .returned v ∧ w'.ownsRow wx.heap.size 54 3 v (((l.drop f).take (e - f)).map (shN 1)).length (ndsCells (((l.drop f).take (e - f)).map (shN 1)))) := fun wx off' cap' hx => by
    rw [List.length_map]
    exact lowered_n ((l.drop f).take (e - f)) (e - f) 1 g off' cap' wx (by rw [List.length_take, List.length_drop]; omega) (by rw [List.length_take, List.length_drop]; omega) (by omega) (((unhide HD).drop _).take _) (hx.take _)
  have HL2 : Hid (∀ wx cap', NA wx g 0 l → Calls Tryz.prog 72 #[.slice (some ⟨g, 0, none⟩) f cap', .int .i64 0] wx fun e' w' => Below wx.heap.size wx w' ∧ ∃ v, e' = .returned v ∧ w'.ownsRow wx.heap.size 54 3 v (l.take f).length (ndsCells (l.take f))) := fun wx cap' hx => by
    have := lowered_n (l.take f) f 0 g 0 cap' wx (by rw [List.length_take]; omega) (by rw [List.length_take]; omega) (by omega) ((unhide HD).take _) (hx.take _)
    rw [map_sh0] at this
    exact this
  have hlC : (((l.drop f).take (e - f)).map (shN 1)).length ≤ 1000000 := by rw [List.length_map, List.length_take, List.length_drop]; omega
  have hlA : (l.take f).length ≤ 1000000 := by rw [List.length_take]; omega
  have hlE : (l.drop e).length ≤ 1000000 := by rw [List.length_drop]; omega
  have hcase : n = 0 ∨ b = true := by
    rcases Nat.eq_zero_or_pos n with h | h
    · exact .inl h
    · right; cases b with
      | true => rfl
      | false => exact absurd ⟨h, rfl⟩ hnb
  clear hn hx hd HI hxi hnb hpf hpe
  have hmain : ∀ (hcs : (¬ (0 : Int) < (n : Int)) ∨ ((0 : Int) < (n : Int) ∧ b = true)), Calls Tryz.prog 54 #[.agg (stA kd p i n b t), .slice (some ⟨g, 0, none⟩) l.length cap] w fun e w' => ListR w (insN l p i n b t) e w' := by
    intro hcs
    rcases hcs with hcs | ⟨hcs, hcb⟩
    · go_enter Tryz.func54, Tryz.ntmps54
      go_wp2_with fail
      refine (unhide HSU _ (unhide HNX _)).mono ?_
      rintro e' w1 ⟨rfl, hB1⟩
      have hlt1 : w.heap.size < w1.heap.size := by have := hB1.size; simp at this; omega
      have HBK1 : Hid (w1.heap[w.heap.size]? = some (.cells (stA kd p i n _ t) 68 (0, 0))) := (hB1.block _ (by simp)).trans (heap_alloc_new _ _)
      have HB1 : Hid (Below w.heap.size w w1) := ((Below.refl w.heap.size w).alloc (Nat.le_refl _) _).trans (hB1.mono (by simp))
      have HN1 := hide ((unhide HN).below (unhide HB1) hgl)
      obtain ⟨_, a1, a2, a3, _, _, _, _⟩ := st_cells (unhide HBK1)
      clear hB1
      go_wp2_with fail
      refine (unhide HP1 _ (unhide HN1)).mono ?_
      rintro e' w2 ⟨he', hB2⟩
      have he2 : e' = .returned (.tuple #[.int .i64 (f : Int), .bool ok1]) := he'
      subst he2
      have hlt2 : w.heap.size < w2.heap.size := by have := hB2.size; omega
      have HBK2 := hide ((hB2.block _ hlt1).trans (unhide HBK1))
      have HB2 : Hid (Below w.heap.size w w2) := (unhide HB1).trans (hB2.mono (by omega))
      have HN2 := hide ((unhide HN).below (unhide HB2) hgl)
      obtain ⟨_, b1, b2, b3, _, _, _, _⟩ := st_cells (unhide HBK2)
      clear hB2 he' a1 a2 a3 HBK1
      go_wp2_with fail
      refine (unhide HP2 _ (unhide HN2)).mono ?_
      rintro e' w3 ⟨he', hB3⟩
      have he3 : e' = .returned (.tuple #[.int .i64 (e : Int), .bool ok2]) := he'
      subst he3
      have hlt3 : w.heap.size < w3.heap.size := by have := hB3.size; omega
      have HBK3 := hide ((hB3.block _ hlt2).trans (unhide HBK2))
      have HB3 : Hid (Below w.heap.size w w3) := (unhide HB2).trans (hB3.mono (by omega))
      have hna3 := (unhide HN).below (unhide HB3) hgl
      obtain ⟨_, _, y2⟩ := hna3.cell0 (unhide HX)
      have HN3 := hide hna3
      have hg3 := hna3.lt
      obtain ⟨_, c1, c2, c3, c4, c5, c6, _⟩ := st_cells (unhide HBK3)
      clear hB3 he' b1 b2 b3 HBK2 hna3
      cases ok1 with
      | false =>
        have HR : Hid (insN l p i n _ t = none) := (unhide HI2).trans (if_pos (.inl rfl))
        go_wp2_with fail
        go_ret2
        rw [unhide HR]
        exact ⟨unhide HB3, rfl⟩
      | true =>
      cases ok2 with
      | false =>
        have HR : Hid (insN l p i n _ t = none) := (unhide HI2).trans (if_pos (.inr rfl))
        go_wp2_with fail
        go_ret2
        rw [unhide HR]
        exact ⟨unhide HB3, rfl⟩
      | true =>
      have HR := hide ((unhide HI2).trans (if_neg (by simp)))
      clear HI2
      have HNA3 : Hid (∀ o, NA (w3.alloc o) g 0 l) := fun o => (unhide HN3).heap (heap_alloc_old _ _ (unhide HN3).lt)
      go_wp2_with fail
      all_goals
        refine (unhide HL1 _ _ _ ((unhide HNA3 _).part (cap := cap) (by omega) (by omega) (by first | exact .inr rfl | exact .inl (by omega)))).mono ?_
        rintro e' w4 ⟨hB4, vc, rfl, hoC⟩
        have hsz4 : w3.heap.size < w4.heap.size := by have := hB4.size; simp at this; omega
        have HK4 := hide ((hB4.block _ (by simp)).trans (heap_alloc_new w3 _))
        have HB4 : Hid (Below w.heap.size w w4) := ((unhide HB3).alloc (by omega) _).trans (hB4.mono (by simp; omega))
        have HN4 := hide ((unhide HN).below (unhide HB4) hgl)
        have HSC := hide (Src.of_own hoC)
        have HCL : Hid (∀ j, vc.ownBlock = some j → j < w4.heap.size) := fun j hj => (hoC.lt j hj).2
        generalize ((l.drop f).take (e - f)).map (shN 1) = C at *
        clear hB4 hoC HBK3 HN3
        go_wp2_with fail
        refine (unhide HL2 _ _ (unhide HN4)).mono ?_
        rintro e' w5 ⟨hB5, vm, rfl, hoM⟩
        have hsz5 := hB5.size
        have HN5 := hide ((unhide HN4).below hB5 (by omega))
        have HB5 : Hid (Below w.heap.size w w5) := (unhide HB4).trans (hB5.mono (by omega))
        have HSC5 := hide ((unhide HSC).below hB5 (unhide HCL))
        obtain ⟨d0, d1, d2, _⟩ := nd_cells ((hB5.block _ hsz4).trans (unhide HK4))
        have HM := hide hoM
        generalize hA : l.take f = A at *
        clear hB5 hoM hA HN4 HSC HK4
        go_wp2_with (first
          | (at_builtin; refine wpList_append_lies _ rfl (.tmp 86) (.tmp 88) 36 rfl w4.heap.size 54 i0 (.agg #[.bool false, .string ⟨#[]⟩, .int .i64 0]) 3 32 Tryz.underlying36 hi0 hz0 hz1 hz2 rfl (by decide) _ A.length (ndsCells A) rfl ((unhide HM).alloc _) ⟨w5.heap.size, 0, none⟩ 1 1 _ rfl rfl (nd_news _ _ _ (heap_alloc_new _ _)) (nd_one _ _ _) (by decide) (by unfold maxLen; omega) (by omega) (by simp; omega) _ rfl ?_)
          | fail)
        intro g6 cap6 w6 hoM6 hg6 hw6 hlt6
        have hne5 : ∀ j, vm.ownBlock = some j → w4.heap.size ≤ j := fun j hj => ((unhide HM).lt j hj).1
        have hsz6 : w5.heap.size < w6.heap.size := by have := hg6.size; simp at this; omega
        have HN6 : Hid (NA w6 g 0 l) := ((unhide HN5).grown (World.grownBy_alloc w5 _ none) (by simp)).grown hg6 (fun e => by have := hne5 g e; omega)
        have HSC6 : Hid (Src w6 vc C) := ((unhide HSC5).grown (World.grownBy_alloc w5 _ none) (fun j _ => by simp)).grown hg6 (fun j hj e => by have := hne5 j e; have := unhide HCL j hj; omega)
        have HB6 : Hid (Below w.heap.size w w6) := below_app ((unhide HB5).alloc (by omega) _) ((unhide HM).alloc _) (by omega) hg6
        obtain ⟨A1, hA1⟩ : ∃ A1, A1 = A ++ [(⟨b, t, x.depth + 1⟩ : Nd)] := ⟨_, rfl⟩
        have HM6 : Hid (w6.ownsRow w4.heap.size 54 3 (.slice (some ⟨g6, 0, none⟩) (A.length + 1) cap6) A1.length (ndsCells A1)) := by
          show World.ownsRow _ _ _ _ _ _ _
          rw [hA1, ndsCells_snoc, List.length_append]; exact hoM6
        rw [← hA1] at HR
        have hlA1 : A1.length ≤ 1000001 := by rw [hA1, List.length_append]; simp; omega
        clear hoM6 hg6 hw6 hA1 hne5 HSC5 HN5 HB5 HM
        go_wp2_with (first | (at_builtin; refine append_nds rfl _ _ rfl w4.heap.size (.slice (some ⟨g6, 0, none⟩) (A.length + 1) cap6) vc A1 C rfl rfl (unhide HM6) (unhide HSC6) (by omega) (by omega) ?_) | fail)
        intro AC v7 w7 hAC hoM7 hg7
        have hne6 : w4.heap.size ≤ g6 := ((unhide HM6).lt g6 rfl).1
        have hsz7 := hg7.size
        have HN7 : Hid (NA w7 g 0 l) := (unhide HN6).grown hg7 (fun e => by have : g6 = g := Option.some.inj e; omega)
        have HB7 := hide (below_app (unhide HB6) (unhide HM6) (by omega) hg7)
        have hlAC : AC.length ≤ 2000001 := by rw [hAC, List.length_append]; omega
        rw [← hAC] at HR
        have HM7 := hide hoM7
        clear hAC hoM7 hg7 HSC6 HN6 HB6 HM6
        go_wp2_with (first
          | (at_builtin; refine append_nds rfl _ _ rfl w4.heap.size v7 (.slice (if cap = e then some ⟨g, 0, none⟩ else some ⟨g, e * 3, none⟩) (l.length - e) (cap - e)) AC (l.drop e) rfl rfl (unhide HM7) (NA.partI (unhide HN7) (by omega) (by omega)) (by omega) (by omega) ?_)
          | (at_builtin; refine append_nds rfl _ _ rfl w4.heap.size v7 _ AC (l.drop e) rfl rfl (unhide HM7) (NA.part' (unhide HN7) (cap := cap) (by omega) (by omega) (by first | exact .inr rfl | exact .inl (by omega)) (by first | rfl | omega)) (by omega) (by omega) ?_)
          | fail)
        all_goals
          intro Fi v8 w8 hF hoM8 hg8
          have HB8 := hide (below_app (unhide HB7) (unhide HM7) (by omega) hg8)
          rw [← hF] at HR
          have HM8 := hide hoM8
          clear hoM8 hg8 hF
          go_wp2_with fail
          go_ret2
          rw [unhide HR]
          exact ⟨unhide HB8, _, rfl, ownsRow_base (unhide HM8) (by omega)⟩
    · subst hcb
      go_enter Tryz.func54, Tryz.ntmps54
      go_wp2_with fail
      refine (unhide HSU _ (unhide HNX _)).mono ?_
      rintro e' w1 ⟨rfl, hB1⟩
      have hlt1 : w.heap.size < w1.heap.size := by have := hB1.size; simp at this; omega
      have HBK1 : Hid (w1.heap[w.heap.size]? = some (.cells (stA kd p i n _ t) 68 (0, 0))) := (hB1.block _ (by simp)).trans (heap_alloc_new _ _)
      have HB1 : Hid (Below w.heap.size w w1) := ((Below.refl w.heap.size w).alloc (Nat.le_refl _) _).trans (hB1.mono (by simp))
      have HN1 := hide ((unhide HN).below (unhide HB1) hgl)
      obtain ⟨_, a1, a2, a3, _, _, _, _⟩ := st_cells (unhide HBK1)
      clear hB1
      go_wp2_with fail
      refine (unhide HP1 _ (unhide HN1)).mono ?_
      rintro e' w2 ⟨he', hB2⟩
      have he2 : e' = .returned (.tuple #[.int .i64 (f : Int), .bool ok1]) := he'
      subst he2
      have hlt2 : w.heap.size < w2.heap.size := by have := hB2.size; omega
      have HBK2 := hide ((hB2.block _ hlt1).trans (unhide HBK1))
      have HB2 : Hid (Below w.heap.size w w2) := (unhide HB1).trans (hB2.mono (by omega))
      have HN2 := hide ((unhide HN).below (unhide HB2) hgl)
      obtain ⟨_, b1, b2, b3, _, _, _, _⟩ := st_cells (unhide HBK2)
      clear hB2 he' a1 a2 a3 HBK1
      go_wp2_with fail
      refine (unhide HP2 _ (unhide HN2)).mono ?_
      rintro e' w3 ⟨he', hB3⟩
      have he3 : e' = .returned (.tuple #[.int .i64 (e : Int), .bool ok2]) := he'
      subst he3
      have hlt3 : w.heap.size < w3.heap.size := by have := hB3.size; omega
      have HBK3 := hide ((hB3.block _ hlt2).trans (unhide HBK2))
      have HB3 : Hid (Below w.heap.size w w3) := (unhide HB2).trans (hB3.mono (by omega))
      have hna3 := (unhide HN).below (unhide HB3) hgl
      obtain ⟨_, _, y2⟩ := hna3.cell0 (unhide HX)
      have HN3 := hide hna3
      have hg3 := hna3.lt
      obtain ⟨_, c1, c2, c3, c4, c5, c6, _⟩ := st_cells (unhide HBK3)
      clear hB3 he' b1 b2 b3 HBK2 hna3
      cases ok1 with
      | false =>
        have HR : Hid (insN l p i n _ t = none) := (unhide HI2).trans (if_pos (.inl rfl))
        go_wp2_with fail
        go_ret2
        rw [unhide HR]
        exact ⟨unhide HB3, rfl⟩
      | true =>
      cases ok2 with
      | false =>
        have HR : Hid (insN l p i n _ t = none) := (unhide HI2).trans (if_pos (.inr rfl))
        go_wp2_with fail
        go_ret2
        rw [unhide HR]
        exact ⟨unhide HB3, rfl⟩
      | true =>
      have HR := hide ((unhide HI2).trans (if_neg (by simp)))
      clear HI2
      have HNA3 : Hid (∀ o, NA (w3.alloc o) g 0 l) := fun o => (unhide HN3).heap (heap_alloc_old _ _ (unhide HN3).lt)
      go_wp2_with fail
      all_goals
        refine (unhide HL1 _ _ _ ((unhide HNA3 _).part (cap := cap) (by omega) (by omega) (by first | exact .inr rfl | exact .inl (by omega)))).mono ?_
        rintro e' w4 ⟨hB4, vc, rfl, hoC⟩
        have hsz4 : w3.heap.size < w4.heap.size := by have := hB4.size; simp at this; omega
        have HK4 := hide ((hB4.block _ (by simp)).trans (heap_alloc_new w3 _))
        have HB4 : Hid (Below w.heap.size w w4) := ((unhide HB3).alloc (by omega) _).trans (hB4.mono (by simp; omega))
        have HN4 := hide ((unhide HN).below (unhide HB4) hgl)
        have HSC := hide (Src.of_own hoC)
        have HCL : Hid (∀ j, vc.ownBlock = some j → j < w4.heap.size) := fun j hj => (hoC.lt j hj).2
        generalize ((l.drop f).take (e - f)).map (shN 1) = C at *
        clear hB4 hoC HBK3 HN3
        go_wp2_with fail
        refine (unhide HL2 _ _ (unhide HN4)).mono ?_
        rintro e' w5 ⟨hB5, vm, rfl, hoM⟩
        have hsz5 := hB5.size
        have HN5 := hide ((unhide HN4).below hB5 (by omega))
        have HB5 : Hid (Below w.heap.size w w5) := (unhide HB4).trans (hB5.mono (by omega))
        have HSC5 := hide ((unhide HSC).below hB5 (unhide HCL))
        obtain ⟨d0, d1, d2, _⟩ := nd_cells ((hB5.block _ hsz4).trans (unhide HK4))
        have HM := hide hoM
        generalize hA : l.take f = A at *
        clear hB5 hoM hA HN4 HSC HK4
        go_wp2_with (first
          | (at_builtin; refine wpList_append_lies _ rfl (.tmp 86) (.tmp 88) 36 rfl w4.heap.size 54 i0 (.agg #[.bool false, .string ⟨#[]⟩, .int .i64 0]) 3 32 Tryz.underlying36 hi0 hz0 hz1 hz2 rfl (by decide) _ A.length (ndsCells A) rfl ((unhide HM).alloc _) ⟨w5.heap.size, 0, none⟩ 1 1 _ rfl rfl (nd_news _ _ _ (heap_alloc_new _ _)) (nd_one _ _ _) (by decide) (by unfold maxLen; omega) (by omega) (by simp; omega) _ rfl ?_)
          | fail)
        intro g6 cap6 w6 hoM6 hg6 hw6 hlt6
        have hne5 : ∀ j, vm.ownBlock = some j → w4.heap.size ≤ j := fun j hj => ((unhide HM).lt j hj).1
        have hsz6 : w5.heap.size < w6.heap.size := by have := hg6.size; simp at this; omega
        have HN6 : Hid (NA w6 g 0 l) := ((unhide HN5).grown (World.grownBy_alloc w5 _ none) (by simp)).grown hg6 (fun e => by have := hne5 g e; omega)
        have HSC6 : Hid (Src w6 vc C) := ((unhide HSC5).grown (World.grownBy_alloc w5 _ none) (fun j _ => by simp)).grown hg6 (fun j hj e => by have := hne5 j e; have := unhide HCL j hj; omega)
        have HB6 : Hid (Below w.heap.size w w6) := below_app ((unhide HB5).alloc (by omega) _) ((unhide HM).alloc _) (by omega) hg6
        obtain ⟨A1, hA1⟩ : ∃ A1, A1 = A ++ [(⟨true, t, x.depth + 1⟩ : Nd)] := ⟨_, rfl⟩
        have HM6 : Hid (w6.ownsRow w4.heap.size 54 3 (.slice (some ⟨g6, 0, none⟩) (A.length + 1) cap6) A1.length (ndsCells A1)) := by
          show World.ownsRow _ _ _ _ _ _ _
          rw [hA1, ndsCells_snoc, List.length_append]; exact hoM6
        rw [← hA1] at HR
        have hlA1 : A1.length ≤ 1000001 := by rw [hA1, List.length_append]; simp; omega
        clear hoM6 hg6 hw6 hA1 hne5 HSC5 HN5 HB5 HM
        go_wp2_with (first | (at_builtin; refine append_nds rfl _ _ rfl w4.heap.size (.slice (some ⟨g6, 0, none⟩) (A.length + 1) cap6) vc A1 C rfl rfl (unhide HM6) (unhide HSC6) (by omega) (by omega) ?_) | fail)
        intro AC v7 w7 hAC hoM7 hg7
        have hne6 : w4.heap.size ≤ g6 := ((unhide HM6).lt g6 rfl).1
        have hsz7 := hg7.size
        have HN7 : Hid (NA w7 g 0 l) := (unhide HN6).grown hg7 (fun e => by have : g6 = g := Option.some.inj e; omega)
        have HB7 := hide (below_app (unhide HB6) (unhide HM6) (by omega) hg7)
        have hlAC : AC.length ≤ 2000001 := by rw [hAC, List.length_append]; omega
        rw [← hAC] at HR
        have HM7 := hide hoM7
        clear hAC hoM7 hg7 HSC6 HN6 HB6 HM6
        go_wp2_with (first
          | (at_builtin; refine append_nds rfl _ _ rfl w4.heap.size v7 (.slice (if cap = e then some ⟨g, 0, none⟩ else some ⟨g, e * 3, none⟩) (l.length - e) (cap - e)) AC (l.drop e) rfl rfl (unhide HM7) (NA.partI (unhide HN7) (by omega) (by omega)) (by omega) (by omega) ?_)
          | (at_builtin; refine append_nds rfl _ _ rfl w4.heap.size v7 _ AC (l.drop e) rfl rfl (unhide HM7) (NA.part' (unhide HN7) (cap := cap) (by omega) (by omega) (by first | exact .inr rfl | exact .inl (by omega)) (by first | rfl | omega)) (by omega) (by omega) ?_)
          | fail)
        all_goals
          intro Fi v8 w8 hF hoM8 hg8
          have HB8 := hide (below_app (unhide HB7) (unhide HM7) (by omega) hg8)
          rw [← hF] at HR
          have HM8 := hide hoM8
          clear hoM8 hg8 hF
          go_wp2_with fail
          go_ret2
          rw [unhide HR]
          exact ⟨unhide HB8, _, rfl, ownsRow_base (unhide HM8) (by omega)⟩
  rcases hcase with rfl | rfl
  · exact hmain (.inl (by simp))
  · rcases Nat.eq_zero_or_pos n with h | h
    · exact hmain (.inl (by omega))
    · exact hmain (.inr ⟨by omega, rfl⟩)

end Go.Proofs.YtdaneedflpfeaabGreatDoor
