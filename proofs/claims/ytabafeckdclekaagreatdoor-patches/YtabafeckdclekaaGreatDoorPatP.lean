import Derived.Test.YtabafeckdclekaaGreatDoorPatO
import Derived.Test.YtabafeckdclekaaGreatDoorPatG
import Derived.Test.YtabafeckdclekaaGreatDoorRefAcc
namespace Go.Proofs.YtabafeckdclekaaGreatDoor
set_option maxRecDepth 100000
open Go.RowKit

/-- A row at hand, to be appended. -/
def Src (w : World) (u : Value) (m : List Nd) : Prop := (u = .slice none 0 0 ∧ m = []) ∨ ∃ g off cap, u = .slice (some ⟨g, off, none⟩) m.length cap ∧ NA w g off m
theorem Src.of_own {w : World} {base : Nat} {u : Value} {m : List Nd} (h : w.ownsRow base 51 3 u m.length (ndsCells m)) : Src w u m := by
  rcases row_form h with ⟨rfl, h0⟩ | ⟨g, cap, rfl, hg⟩
  · exact .inl ⟨rfl, List.eq_nil_of_length_eq_zero h0⟩
  · exact .inr ⟨g, 0, cap, rfl, NA.of_own h hg rfl⟩
theorem NA.grown {w w' : World} {row : Option Nat} {g off : Nat} {l : List Nd} (h : NA w g off l) (hg : w.grownBy w' row) (hr : row ≠ some g) : NA w' g off l := h.heap (hg.block g h.lt (fun e => hr e.symm))
theorem ndsCells_cell (l : List Nd) : ∀ u ∈ ndsCells l, u.oneCell' = true := by
  intro u hu
  simp only [ndsCells, List.mem_flatMap] at hu
  obtain ⟨x, _, hx⟩ := hu
  simp [ndCells] at hx
  rcases hx with rfl | rfl | rfl <;> rfl
theorem add_off (g off j : Nat) : (⟨g, off, none⟩ : Addr).add j = ⟨g, off + j, none⟩ := by unfold Addr.add; split <;> simp_all
/-- append(x, y...) of nodes. -/
theorem append_nds {w : World} {ops : Array Oper} {rest : List Oper} {o : Oper} {a : Act} {Q : Exit → Act → World → Prop} (hgd : o.guard = none) (s x : Operand)
    (ho : o.op = .call { callee := .builtin .append, args := #[s, x], argTypes := #[26, 26] }) (base : Nat) (v u : Value) (l m : List Nd)
    (hs : a.eval s = v) (hx : a.eval x = u) (hown : w.ownsRow base 51 3 v l.length (ndsCells l)) (hsrc : Src w u m) (hbase : base ≤ w.heap.size) (hfew : l.length + m.length ≤ 9999999)
    (h : ∀ F v' w', F = l ++ m → w'.ownsRow base 51 3 v' F.length (ndsCells F) → w.grownBy w' v.ownBlock → wpList Tryz.prog ops Q rest (a.put o.dst v') w') : wpList Tryz.prog ops Q (o :: rest) a w := by
  obtain ⟨i0, hi, hz0, hz1, hz2⟩ := info_parts Tryz.infoNd
  rcases hsrc with ⟨rfl, rfl⟩ | ⟨g, off, cap, rfl, hna⟩
  · refine wpList_append_own_none hgd s x 26 ho base 51 i0 3 Tryz.underlying26 hi v l.length (ndsCells l) hs hown hx ?_
    refine h _ v w rfl ?_ (grown_refl _ _)
    rw [List.append_nil]; exact hown
  · refine wpList_append_own w hgd s x 26 ho base 51 i0 (.agg #[.bool false, .string ⟨#[]⟩, .int .i64 0]) 3 32 Tryz.underlying26 hi hz0 hz1 hz2 rfl (by decide) v l.length (ndsCells l) hs hown ⟨g, off, none⟩ m.length cap (ndsCells m) hx (ndsCells_len m) (fun j u hu => by rw [add_off]; exact hna.at_ j u hu) (ndsCells_cell m) (by unfold maxLen; omega) (by omega) hbase ?_
    intro v' w' h1 h2 _
    refine h _ v' w' rfl ?_ h2
    rw [List.length_append, ndsCells_split]; exact h1

/-- What a step's function answers. -/
def ListR (w : World) (o : Option (List Nd)) (e : Ending) (w' : World) : Prop := Below w.heap.size w w' ∧ match o with
  | some m => ∃ v, e = .returned (.tuple #[v, .bool true]) ∧ w'.ownsRow w.heap.size 51 3 v m.length (ndsCells m)
  | none => e = .returned (.tuple #[.slice none 0 0, .bool false])
theorem map_sh0 (l : List Nd) : l.map (shN 0) = l := by
  induction l with
  | nil => rfl
  | cons x l ih => rw [List.map_cons, ih]; congr 1; simp [shN]
def Deep (l : List Nd) : Prop := ∀ x ∈ l, -1000000 ≤ x.depth ∧ x.depth ≤ 1000000
theorem Deep.take {l : List Nd} (h : Deep l) (k : Nat) : Deep (l.take k) := fun x hx => h x (List.mem_of_mem_take hx)
theorem Deep.drop {l : List Nd} (h : Deep l) (k : Nat) : Deep (l.drop k) := fun x hx => h x (List.mem_of_mem_drop hx)

/-- d K. -/
def remN (l : List Nd) (k : Nat) : Option (List Nd) := if k < 1 ∨ l.length ≤ k then none else some (l.take k ++ ((l.drop (k + 1)).take (subE l k - (k + 1))).map (shN (-1)) ++ l.drop (subE l k))

theorem NA.nil {w : World} {g : Nat} (h : g < w.heap.size) (off : Nat) : NA w g off [] := ⟨h, fun j u hu => by simp [ndsCells] at hu⟩
theorem lowered_n (l : List Nd) (n : Nat) (by_ : Int) (g off cap : Nat) (w : World) (hnl : n = l.length) (hl : l.length ≤ 1000000) (hby : -1 ≤ by_ ∧ by_ ≤ 1) (hd : Deep l) (hn : NA w g off l) :
    Calls Tryz.prog 66 #[.slice (some ⟨g, off, none⟩) n cap, .int .i64 by_] w fun e w' => Below w.heap.size w w' ∧ ∃ v, e = .returned v ∧ w'.ownsRow w.heap.size 51 3 v l.length (ndsCells (l.map (shN by_))) := by
  subst hnl; exact lowered_any l by_ g off cap w hl hby hd hn
/-- A part of nodes, wherever the model says that it begins. -/
theorem NA.part {w : World} {g : Nat} {l : List Nd} (h : NA w g 0 l) {a cap off : Nat} (ha : a ≤ l.length) (hcap : l.length ≤ cap) (ho : cap = a ∨ off = a * 3) : NA w g off (l.drop a) := by
  rcases ho with ho | ho
  · rw [List.drop_of_length_le (by omega)]; exact NA.nil h.lt off
  · have := h.drop a ha; rw [Nat.zero_add] at this; rw [ho]; exact this
theorem NA.part' {w : World} {g : Nat} {l : List Nd} (h : NA w g 0 l) {a cap off n c : Nat} (ha : a ≤ l.length) (hcap : l.length ≤ cap) (ho : cap = a ∨ off = a * 3) (hn : n = l.length - a) : Src w (.slice (some ⟨g, off, none⟩) n c) (l.drop a) :=
  .inr ⟨g, off, c, by rw [List.length_drop, hn], h.part ha hcap ho⟩
theorem NA.partI {w : World} {g : Nat} {l : List Nd} (h : NA w g 0 l) {a cap c : Nat} (ha : a ≤ l.length) (hcap : l.length ≤ cap) : Src w (.slice (if cap = a then some ⟨g, 0, none⟩ else some ⟨g, a * 3, none⟩) (l.length - a) c) (l.drop a) := by
  split
  · rename_i e; exact h.part' ha hcap (.inl e) rfl
  · exact h.part' ha hcap (.inr rfl) rfl
theorem Src.grown {w w' : World} {row : Option Nat} {u : Value} {m : List Nd} (h : Src w u m) (hg : w.grownBy w' row) (hr : ∀ j, u.ownBlock = some j → row ≠ some j) : Src w' u m := by
  rcases h with h | ⟨g, off, cap, rfl, hna⟩
  · exact .inl h
  · exact .inr ⟨g, off, cap, rfl, hna.grown hg (hr g rfl)⟩
theorem Src.below {w w' : World} {B : Nat} {u : Value} {m : List Nd} (h : Src w u m) (hb : Below B w w') (hB : ∀ j, u.ownBlock = some j → j < B) : Src w' u m := by
  rcases h with h | ⟨g, off, cap, rfl, hna⟩
  · exact .inl h
  · exact .inr ⟨g, off, cap, rfl, hna.below hb (hB g rfl)⟩
theorem below_app {w0 w w' : World} {base : Nat} {v : Value} {n : Nat} {xs : List Value} (hb : Below w0.heap.size w0 w) (hown : w.ownsRow base 51 3 v n xs) (hbase : w0.heap.size ≤ base) (hg : w.grownBy w' v.ownBlock) : Below w0.heap.size w0 w' :=
  hb.grown hg hb.size (fun j hj => by have := (hown.lt j hj).1; omega)

set_option maxHeartbeats 6400000 in
theorem remove_any (l : List Nd) (k g cap : Nat) (w : World) (hl : l.length ≤ 1000000) (hcap : l.length ≤ cap) (hcm : cap ≤ maxLen) (hk : k ≤ 1000000) (hd : Deep l) (hn : NA w g 0 l) :
    Calls Tryz.prog 42 #[.slice (some ⟨g, 0, none⟩) l.length cap, .int .i64 (k : Int)] w fun e w' => ListR w (remN l k) e w' := by
  by_cases hk1 : k < 1
  · have HR : Hid (remN l k = none) := by show _ = _; rw [remN, if_pos (.inl hk1)]
    go_enter Tryz.func42, Tryz.ntmps42
    go_wp2_with fail
    go_ret2
    rw [unhide HR]
    exact ⟨Below.refl _ _, rfl⟩
  by_cases hkl : l.length ≤ k
  · have HR : Hid (remN l k = none) := by show _ = _; rw [remN, if_pos (.inr hkl)]
    go_enter Tryz.func42, Tryz.ntmps42
    go_wp2_with fail
    go_ret2
    rw [unhide HR]
    exact ⟨Below.refl _ _, rfl⟩
  have HR : Hid (remN l k = some (l.take k ++ ((l.drop (k + 1)).take (subE l k - (k + 1))).map (shN (-1)) ++ l.drop (subE l k))) := by show _ = _; rw [remN, if_neg (by omega)]
  have hsub := subE_le (l := l) (k := k) (by omega)
  have HSU := hide (subtreeEnd_any l k g cap w hl (by omega) hn)
  have HN := hide hn
  have hgl := hn.lt
  have HD := hide hd
  clear hn hd
  generalize subE l k = z at *
  have hzc : z ≤ cap := by omega
  have hcm2 : (cap : Int) ≤ 9223372036854775807 := by unfold maxLen at hcm; omega
  have HL1 : Hid (∀ wx off' cap', NA wx g off' (l.drop (k + 1)) → Calls Tryz.prog 66 #[.slice (some ⟨g, off', none⟩) (z - (k + 1)) cap', .int .i64 (-1)] wx fun e w' => Below wx.heap.size wx w' ∧ ∃ v, e = .returned v ∧ w'.ownsRow wx.heap.size 51 3 v (((l.drop (k + 1)).take (z - (k + 1))).map (shN (-1))).length (ndsCells (((l.drop (k + 1)).take (z - (k + 1))).map (shN (-1))))) := fun wx off' cap' hx => by
    rw [List.length_map]
    exact lowered_n ((l.drop (k + 1)).take (z - (k + 1))) (z - (k + 1)) (-1) g off' cap' wx (by rw [List.length_take, List.length_drop]; omega) (by rw [List.length_take, List.length_drop]; omega) (by omega) (((unhide HD).drop _).take _) (hx.take _)
  have HL2 : Hid (∀ wx cap', NA wx g 0 l → Calls Tryz.prog 66 #[.slice (some ⟨g, 0, none⟩) k cap', .int .i64 0] wx fun e w' => Below wx.heap.size wx w' ∧ ∃ v, e = .returned v ∧ w'.ownsRow wx.heap.size 51 3 v (l.take k).length (ndsCells (l.take k))) := fun wx cap' hx => by
    have := lowered_n (l.take k) k 0 g 0 cap' wx (by rw [List.length_take]; omega) (by rw [List.length_take]; omega) (by omega) ((unhide HD).take _) (hx.take _)
    rw [map_sh0] at this
    exact this
  have hlC : (((l.drop (k + 1)).take (z - (k + 1))).map (shN (-1))).length ≤ 1000000 := by rw [List.length_map, List.length_take, List.length_drop]; omega
  have hlA : (l.take k).length ≤ 1000000 := by rw [List.length_take]; omega
  have hlE : (l.drop z).length ≤ 1000000 := by rw [List.length_drop]; omega
  go_enter Tryz.func42, Tryz.ntmps42
  go_wp2_with fail
  refine (unhide HSU).mono ?_
  rintro e w1 ⟨rfl, hB1⟩
  have hsz1 := hB1.size
  have HN1 := hide ((unhide HN).below hB1 hgl)
  have HB1 := hide hB1
  clear hB1 HSU
  go_wp2_with fail
  all_goals
    refine (unhide HL1 _ _ _ ((unhide HN1).part (cap := cap) (by omega) (by omega) (by first | exact .inr rfl | exact .inl (by omega)))).mono ?_
    rintro e w2 ⟨hB2, vc, rfl, hoC⟩
    have hsz2 := hB2.size
    have HN2 := hide ((unhide HN1).below hB2 (by omega))
    have HB2 : Hid (Below w.heap.size w w2) := (unhide HB1).trans (hB2.mono hsz1)
    have HSC := hide (Src.of_own hoC)
    have HCL : Hid (∀ j, vc.ownBlock = some j → j < w2.heap.size) := fun j hj => (hoC.lt j hj).2
    generalize ((l.drop (k + 1)).take (z - (k + 1))).map (shN (-1)) = C at *
    clear hB2 hoC HN1
    go_wp2_with fail
    refine (unhide HL2 _ _ (unhide HN2)).mono ?_
    rintro e w3 ⟨hB3, vm, rfl, hoM⟩
    have hsz3 := hB3.size
    have HN3 := hide ((unhide HN2).below hB3 (by omega))
    have HB3 : Hid (Below w.heap.size w w3) := (unhide HB2).trans (hB3.mono (by omega))
    have HSC3 := hide ((unhide HSC).below hB3 (unhide HCL))
    have HM := hide hoM
    generalize hA : l.take k = A at *
    have HA := hide hA
    clear hB3 hoM hA HN2 HSC
    go_wp2_with (first | (at_builtin; refine append_nds rfl _ _ rfl w2.heap.size vm vc A C rfl rfl (unhide HM) (unhide HSC3) hsz3 (by omega) ?_) | fail)
    intro AC vm4 w4 hAC hoM4 hg4
    have hlAC : AC.length ≤ 2000000 := by rw [hAC, List.length_append]; omega
    rw [← hAC] at HR
    clear hAC
    have hsz4 := hg4.size
    have HN4 := hide ((unhide HN3).grown hg4 (fun e => by have := ((unhide HM).lt g e).1; omega))
    have HB4 := hide (below_app (unhide HB3) (unhide HM) (by omega) hg4)
    have HM4 := hide hoM4
    clear hoM4 hg4
    go_wp2_with (first
      | (at_builtin; refine append_nds rfl _ _ rfl w2.heap.size vm4 (.slice (if cap = z then some ⟨g, 0, none⟩ else some ⟨g, z * 3, none⟩) (l.length - z) (cap - z)) AC (l.drop z) rfl rfl (unhide HM4) (NA.partI (unhide HN4) (by omega) (by omega)) (by omega) (by omega) ?_)
      | (at_builtin; refine append_nds rfl _ _ rfl w2.heap.size vm4 _ AC (l.drop z) rfl rfl (unhide HM4) (NA.part' (unhide HN4) (cap := cap) (by omega) (by omega) (by first | exact .inr rfl | exact .inl (by omega)) (by first | rfl | omega)) (by omega) (by omega) ?_)
      | fail)
    all_goals
      intro F vm5 w5 hF hoM5 hg5
      rw [← hF] at HR
      clear hF
      have HB5 := hide (below_app (unhide HB4) (unhide HM4) (by omega) hg5)
      have HM5 := hide hoM5
      clear hoM5 hg5
      go_wp2_with fail
      go_ret2
      rw [unhide HR]
      exact ⟨unhide HB5, _, rfl, ownsRow_base (unhide HM5) (by omega)⟩

end Go.Proofs.YtabafeckdclekaaGreatDoor
