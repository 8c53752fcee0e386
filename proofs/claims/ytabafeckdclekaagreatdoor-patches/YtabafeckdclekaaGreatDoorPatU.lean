import Derived.Test.YtabafeckdclekaaGreatDoorPatT
import Derived.Test.YtabafeckdclekaaGreatDoorOut
import Derived.Laws.StructEq
namespace Go.Proofs.YtabafeckdclekaaGreatDoor
set_option maxRecDepth 100000
open Go.RowKit

/-- The leaves, one behind the other. -/
def leafB (l : List Nd) : List UInt8 := l.flatMap fun x => if x.inner then [] else x.text.data.toList
theorem leafB_snoc (l : List Nd) (x : Nd) : leafB (l ++ [x]) = leafB l ++ (if x.inner then [] else x.text.data.toList) := by simp [leafB]
theorem cat_data (a : ByteArray) (l : List UInt8) (h : a = mk l) (b : ByteArray) : a ++ b = mk (l ++ b.data.toList) := by rw [h, cat_mk]

set_option maxHeartbeats 3200000 in
theorem leafText_any (l : List Nd) (g cap : Nat) (w : World) (hl : l.length ≤ 100000) (ht : ∀ x ∈ l, x.text.size ≤ 10000) (hn : NA w g 0 l) :
    Calls Tryz.prog 8 #[.slice (some ⟨g, 0, none⟩) l.length cap] w fun e w' => e = .returned (.string (mk (leafB l))) ∧ Below w.heap.size w w' := by
  have HN := hide hn
  have HT := hide ht
  have hgl := hn.lt
  clear hn ht
  go_enter Tryz.func8, Tryz.ntmps8
  go_wp2_with fail
  go_loopw [3, 5, 8] (fun v _ i wr => ∃ (k : Nat) (o : ByteArray), k ≤ l.length ∧ i = .int .i64 k ∧ v = .string o ∧ Hid (o = mk (leafB (l.take k))) ∧ o.size ≤ k * 10000 ∧ Below w.heap.size w wr) (fun _ _ i _ => l.length - (intOf i).toNat)
  case atStart => exact ⟨0, ⟨#[]⟩, Nat.zero_le _, rfl, rfl, rfl, Nat.le_refl _, Below.refl _ _⟩
  case round =>
    obtain ⟨k, o, hk, rfl, rfl, HO, hos, hB⟩ := hrel
    have HB := hide hB
    have hsz := hB.size
    have hgr : g < wr.heap.size := by omega
    have hna := (unhide HN).below hB hgl
    by_cases hlt : k < l.length
    · have hx : l[k]? = some l[k] := List.getElem?_eq_getElem hlt
      obtain ⟨x0, x1, x2⟩ := hna.cell0 hx
      have hxt := unhide HT _ (List.getElem_mem hlt)
      have HI : Hid (leafB (l.take (k + 1)) = leafB (l.take k) ++ (if (l[k]'hlt).inner then [] else (l[k]'hlt).text.data.toList)) := by show _ = _; rw [List.take_succ_eq_append_getElem hlt, leafB_snoc]
      clear hna hB hx
      generalize (l[k]'hlt) = x at *
      cases hin : x.inner with
      | true =>
        rw [hin] at x0
        have HO2 : Hid (o = mk (leafB (l.take (k + 1)))) := by show o = _; rw [unhide HI, hin, unhide HO]; simp
        clear hin
        go_wp2_with fail
        go_roundw
        case rel => exact ⟨k + 1, o, by omega, by go_num, rfl, HO2, by omega, (unhide HB).alloc hsz _⟩
        case measure => simp [intOf]; omega
      | false =>
        rw [hin] at x0
        have HO2 : Hid (o ++ x.text = mk (leafB (l.take (k + 1)))) := by show _ = _; rw [unhide HI, hin, cat_data o _ (unhide HO)]; rfl
        clear hin
        go_wp2_with fail
        go_roundw
        case rel => exact ⟨k + 1, _, by omega, by go_num, rfl, HO2, by rw [ByteArray.size_append]; omega, (unhide HB).alloc hsz _⟩
        case measure => simp [intOf]; omega
    · have HTK : Hid (l.take k = l) := List.take_of_length_le (by omega)
      clear hna hB
      go_wp2_with fail
      go_ret
      exact ⟨ret_str (by rw [unhide HO, unhide HTK]), unhide HB⟩

theorem eq_nd (x y : Nd) (w : World) : (Op.equalIn 10000 51 (.agg #[.bool x.inner, .string x.text, .int .i64 x.depth]) (.agg #[.bool y.inner, .string y.text, .int .i64 y.depth])).run Tryz.prog w = .ok (x.inner == y.inner && x.text.toList == y.text.toList && x.depth == y.depth) w := by
  have u3 := Tryz.underlying3
  have u4 := Tryz.underlying4
  have u9 := Tryz.underlying9
  have a3 := Tryz.isAgg3
  have a4 := Tryz.isAgg4
  have a9 := Tryz.isAgg9
  have z3 := Tryz.sizeOf3
  have z4 := Tryz.sizeOf4
  have z9 := Tryz.sizeOf9
  have hS : Tryz.prog.underlying 51 = some (.struct (Tryz.prog.fieldsOf 51)) := by kernel_rfl
  have hp : Tryz.prog.stoodInHeld 51 = false := by kernel_rfl
  rw [show (10000 : Nat) = 9999 + 1 from rfl, run_equalIn_agg w 9999 51 _ _ hS hp]
  simp only [Program.fieldsOf, Tryz.underlying51]
  go_simp
  by_cases h1 : x.inner = y.inner <;> by_cases h2 : x.text.toList = y.text.toList <;> by_cases h3 : x.depth = y.depth <;> simp [h1, h2, h3]
theorem nd_eq_iff (x y : Nd) : (x.inner == y.inner && x.text.toList == y.text.toList && x.depth == y.depth) = true ↔ x = y := by
  simp only [Bool.and_eq_true, beq_iff_eq]
  constructor
  · rintro ⟨⟨h1, h2⟩, h3⟩
    cases x; cases y
    simp only at h1 h2 h3
    subst h1 h3
    rw [ba_same h2]
  · rintro rfl; exact ⟨⟨rfl, rfl⟩, rfl⟩

set_option maxHeartbeats 3200000 in
theorem isTreeOf_any (l : List Nd) (s : ByteArray) (g cap : Nat) (w : World) (hn : NA w g 0 l) :
    Calls Tryz.prog 9 #[.slice (some ⟨g, 0, none⟩) l.length cap, .string s] w fun e w' => Below w.heap.size w w' ∧ ∃ b, e = .returned (.bool b) ∧ (b = true ↔ outT s = .ok l) := by
  have HRD := hide (read_all s w)
  have HN := hide hn
  have hgl := hn.lt
  clear hn
  cases ho : outT s with
  | err c p =>
    rw [ho] at HRD
    have hc : (c != 0) = true := bne_iff_ne.2 (outT_ne ho).1
    clear ho
    go_enter Tryz.func9, Tryz.ntmps9
    go_wp2_with fail
    refine (unhide HRD).mono ?_
    rintro e w1 ⟨hB, rfl⟩
    have HB := hide hB
    clear hB
    go_wp2_with fail
    go_ret
    exact ⟨unhide HB, _, rfl, by simp⟩
  | ok m =>
    rw [ho] at HRD
    have hml : m.length ≤ 80 := by obtain ⟨l0, j, _, _, h, h2, _⟩ := outT_mod ho; rw [h, List.length_map]; exact h2
    clear ho
    go_enter Tryz.func9, Tryz.ntmps9
    go_wp2_with fail
    refine (unhide HRD).mono ?_
    rintro e w1 ⟨hB, g1, cap1, rfl, hg1, hown⟩
    have HB := hide hB
    have hsz := hB.size
    have HN1 := hide ((unhide HN).below hB hgl)
    have HM1 := hide (NA.of_own hown hg1 rfl)
    have hg1' : g < w1.heap.size := by omega
    clear hB hown HN HRD
    by_cases hll : l.length = m.length
    · have hll' : ((l.length : Int) != (m.length : Int)) = false := by simp [hll]
      go_wp2_with fail
      go_loopw [8, 9, 27] (fun _ _ i wr => ∃ k : Nat, k ≤ l.length ∧ i = .int .i64 k ∧ Hid (l.take k = m.take k) ∧ Below w1.heap.size w1 wr) (fun _ _ i _ => l.length - (intOf i).toNat)
      case atStart => exact ⟨0, Nat.zero_le _, rfl, rfl, Below.refl _ _⟩
      case round =>
        obtain ⟨k, hk, rfl, HK, hB2⟩ := hrel
        have HB2 : Hid (Below w.heap.size w wr) := (unhide HB).trans (hB2.mono hsz)
        have HBW := hide hB2
        have hszr := hB2.size
        have hgr : g < wr.heap.size := by omega
        have hgr1 : g1 < wr.heap.size := by omega
        by_cases hlt : k < l.length
        · have hx : l[k]? = some l[k] := List.getElem?_eq_getElem hlt
          have hltm : k < m.length := by omega
          have hy : m[k]? = some m[k] := List.getElem?_eq_getElem hltm
          obtain ⟨x0, x1, x2⟩ := ((unhide HN1).below hB2 hg1').cell0 hx
          obtain ⟨y0, y1, y2⟩ := ((unhide HM1).below hB2 hg1).cell0 hy
          have HT : Hid (l.take (k + 1) = l.take k ++ [l[k]] ∧ m.take (k + 1) = m.take k ++ [m[k]]) := ⟨List.take_succ_eq_append_getElem hlt, List.take_succ_eq_append_getElem hltm⟩
          have HNE : Hid (l[k] ≠ m[k] → l ≠ m) := fun h e => h (by subst e; rfl)
          clear hB2 hx hy
          generalize (l[k]'hlt) = x at *
          generalize (m[k]'hltm) = y at *
          have hm : Tryz.prog.eqGuardType Tryz.prog.depth 51 = false := by kernel_rfl
          have HEQ := hide (nd_eq_iff x y)
          have heq := fun wx => eq_nd x y wx
          generalize (x.inner == y.inner && x.text.toList == y.text.toList && x.depth == y.depth) = b at *
          cases b with
          | false =>
            have HNX : Hid (l ≠ m) := unhide HNE (fun e => by have := (unhide HEQ).2 e; cases this)
            go_wp2_with fail
            go_quiet (fail)
            go_wp2_with fail
            go_ret
            exact ⟨((unhide HB2).alloc (by omega) _).trans (below_drewN' _ _ _), _, rfl, by simp; exact fun h => unhide HNX h.symm⟩
          | true =>
            have HXY := hide ((unhide HEQ).1 rfl)
            go_wp2_with fail
            go_quiet (fail)
            go_wp2_with fail
            go_roundw
            case rel => exact ⟨k + 1, by omega, by go_num, by show _ = _; rw [(unhide HT).1, (unhide HT).2, unhide HK, unhide HXY], ((unhide HBW).alloc (Nat.le_trans (Nat.le_refl _) hszr) _).trans (below_drewN' _ _ _)⟩
            case measure => simp [intOf]; omega
        · have HLM : Hid (l = m) := by
            show l = m
            have := unhide HK
            rwa [List.take_of_length_le (by omega), List.take_of_length_le (by omega)] at this
          clear hB2
          go_wp2_with fail
          go_ret
          exact ⟨unhide HB2, _, rfl, by simp; exact (unhide HLM).symm⟩
    · have hll' : ((l.length : Int) != (m.length : Int)) = true := by simp; omega
      go_wp2_with fail
      go_ret
      exact ⟨unhide HB, _, rfl, by simp; intro h; exact hll (by rw [h])⟩

end Go.Proofs.YtabafeckdclekaaGreatDoor
