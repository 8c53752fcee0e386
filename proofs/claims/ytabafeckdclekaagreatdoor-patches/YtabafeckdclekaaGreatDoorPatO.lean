import Derived.Test.YtabafeckdclekaaGreatDoorPatN
namespace Go.Proofs.YtabafeckdclekaaGreatDoor
set_option maxRecDepth 100000
open Go.RowKit

/-- Where so many subtrees end. -/
def pastE (l : List Nd) (limit : Nat) : Nat → Nat → Nat × Bool
  | 0, a => (a, true)
  | n + 1, a => if limit ≤ a then (a, false) else pastE l limit n (subE l a)
theorem pastE_le {l : List Nd} {limit : Nat} (hl : limit ≤ l.length) (n a : Nat) (ha : a ≤ l.length) : a ≤ (pastE l limit n a).1 ∧ (pastE l limit n a).1 ≤ l.length := by
  induction n generalizing a with
  | zero => exact ⟨Nat.le_refl _, ha⟩
  | succ n ih =>
    rw [pastE]
    split
    · exact ⟨Nat.le_refl _, ha⟩
    · have := subE_le (l := l) (k := a) (by omega)
      have := ih (subE l a) (by omega)
      omega
def pastR (p : Nat × Bool) : Ending := .returned (.tuple #[.int .i64 (p.1 : Int), .bool p.2])

set_option maxHeartbeats 1600000 in
theorem pastSubtrees_any (l : List Nd) (f limit n g cap : Nat) (w : World) (hl : l.length ≤ 1000000) (hf : f ≤ l.length) (hlim : limit ≤ l.length) (hcnt : n ≤ 1000000) (hn : NA w g 0 l) :
    Calls Tryz.prog 67 #[.slice (some ⟨g, 0, none⟩) l.length cap, .int .i64 (f : Int), .int .i64 (limit : Int), .int .i64 (n : Int)] w fun e w' => e = pastR (pastE l limit n f) ∧ Below w.heap.size w w' := by
  have HN := hide hn
  have hgl := hn.lt
  clear hn
  go_enter Tryz.func67, Tryz.ntmps67
  go_wp2_with fail
  go_loopw [10, 11] (fun i c wr => ∃ a j : Nat, a ≤ l.length ∧ j ≤ n ∧ i = .int .i64 a ∧ c = .int .i64 j ∧ Hid (pastE l limit (n - j) a = pastE l limit n f) ∧ Below w.heap.size w wr) (fun _ c _ => n - (intOf c).toNat)
  case atStart => exact ⟨f, 0, hf, Nat.zero_le _, rfl, rfl, rfl, Below.refl _ _⟩
  case round =>
    obtain ⟨a, j, ha, hj, rfl, rfl, HE, hB⟩ := hrel
    have HB := hide hB
    have hsz := hB.size
    have HNA := hide ((unhide HN).below hB hgl)
    clear hB
    by_cases hlt : j < n
    · have HP : Hid (pastE l limit (n - j) a = if limit ≤ a then (a, false) else pastE l limit (n - (j + 1)) (subE l a)) := by
        show _ = _
        rw [show n - j = (n - (j + 1)) + 1 by omega, pastE]
      by_cases hla : limit ≤ a
      · have HR : Hid (pastE l limit n f = (a, false)) := by show _ = _; rw [← unhide HE, unhide HP, if_pos hla]
        clear HE HP
        go_wp2_with fail
        go_ret2
        rw [unhide HR]
        exact ⟨rfl, unhide HB⟩
      · have HE2 : Hid (pastE l limit (n - (j + 1)) (subE l a) = pastE l limit n f) := by show _ = _; rw [← unhide HE, unhide HP, if_neg hla]
        have hsub := subE_le (l := l) (k := a) (by omega)
        have HSU := hide (fun wx hx => subtreeEnd_any l a g cap wx hl (by omega) hx)
        clear HE HP
        generalize subE l a = z at *
        go_wp2_with fail
        refine (unhide HSU _ (unhide HNA)).mono ?_
        rintro e w1 ⟨rfl, hB1⟩
        have HB1 : Hid (Below w.heap.size w w1) := (unhide HB).trans (hB1.mono hsz)
        clear hB1
        go_wp2_with fail
        go_roundw
        case rel => exact ⟨z, j + 1, by omega, by omega, rfl, by go_num, HE2, unhide HB1⟩
        case measure => simp [intOf]; omega
    · have HR : Hid (pastE l limit n f = (a, true)) := by show _ = _; rw [← unhide HE, show n - j = 0 by omega]; rfl
      clear HE
      go_wp2_with fail
      go_ret2
      rw [unhide HR]
      exact ⟨rfl, unhide HB⟩

def shN (by_ : Int) (x : Nd) : Nd := { x with depth := x.depth + by_ }

set_option maxHeartbeats 1600000 in
theorem lowered_any (l : List Nd) (by_ : Int) (g off cap : Nat) (w : World) (hl : l.length ≤ 1000000) (hby : -1 ≤ by_ ∧ by_ ≤ 1) (hd : ∀ x ∈ l, -1000000 ≤ x.depth ∧ x.depth ≤ 1000000) (hn : NA w g off l) :
    Calls Tryz.prog 66 #[.slice (some ⟨g, off, none⟩) l.length cap, .int .i64 by_] w fun e w' => Below w.heap.size w w' ∧ ∃ v, e = .returned v ∧ w'.ownsRow w.heap.size 51 3 v l.length (ndsCells (l.map (shN by_))) := by
  obtain ⟨i0, hi, hz0, hz1, hz2⟩ := info_parts Tryz.infoNd
  have HN := hide hn
  have HD := hide hd
  have hgl := hn.lt
  clear hn hd
  go_enter Tryz.func66, Tryz.ntmps66
  go_wp2_with fail
  go_loopw [5, 7, 10] (fun v _ i wr => ∃ k : Nat, k ≤ l.length ∧ i = .int .i64 k ∧ wr.ownsRow w.heap.size 51 3 v k (ndsCells ((l.take k).map (shN by_))) ∧ Below w.heap.size w wr) (fun _ _ i _ => l.length - (intOf i).toNat)
  case atStart => exact ⟨0, Nat.zero_le _, rfl, World.ownsRow_nil _ _ _ _, Below.refl _ _⟩
  case round =>
    obtain ⟨k, hk, rfl, hown, hB⟩ := hrel
    have HB := hide hB
    have hsz := hB.size
    have hna := (unhide HN).below hB hgl
    by_cases hlt : k < l.length
    · have HO := hide hown
      have hx : l[k]? = some l[k] := List.getElem?_eq_getElem hlt
      obtain ⟨x0, x1, x2⟩ := hna.cell hx
      obtain ⟨hd0, hd1⟩ := unhide HD _ (List.getElem_mem hlt)
      have HT : Hid ((l.take (k + 1)).map (shN by_) = (l.take k).map (shN by_) ++ [shN by_ l[k]]) := by show _ = _; rw [List.take_succ_eq_append_getElem hlt, List.map_append]; rfl
      clear hna hB hown hx
      generalize (l[k]'hlt) = x at *
      generalize (l.take k).map (shN by_) = L at *
      go_wp2_with (first
        | (at_builtin; refine wpList_append_lies _ rfl (.tmp 19) (.tmp 21) 26 rfl w.heap.size 51 i0 (.agg #[.bool false, .string ⟨#[]⟩, .int .i64 0]) 3 32 Tryz.underlying26 hi hz0 hz1 hz2 rfl (by decide) _ k (ndsCells L) rfl (((unhide HO).alloc _).alloc _) ⟨wr.heap.size + 1, 0, none⟩ 1 1 [.bool x.inner, .string x.text, .int .i64 (x.depth + by_)] rfl rfl (nd_news _ _ _ (heap_alloc2_new _ _ _)) (nd_one _ _ _) (by decide) (by unfold maxLen; omega) (by omega) (by simp; omega) _ rfl ?_)
        | fail)
      intro g2 cap2 w2 hown2 hgrow _ hlt2
      have HB2 : Hid (Below w.heap.size w w2) := (((unhide HB).alloc hsz _).alloc (by simp; omega) _).grown hgrow (by simp; omega) (fun j hj => ((unhide HO).lt j hj).1)
      have HO2 := hide hown2
      clear hown2 hgrow HO HB
      go_wp2_with fail
      go_roundw
      case rel => exact ⟨k + 1, by omega, by go_num, by rw [unhide HT, ndsCells_snoc]; exact unhide HO2, unhide HB2⟩
      case measure => simp [intOf]; omega
    · have hke : k = l.length := by omega
      subst hke
      rw [List.take_length] at hown
      have HO := hide hown
      clear hown hB hna
      go_wp2_with fail
      go_ret
      exact ⟨unhide HB, _, rfl, unhide HO⟩

end Go.Proofs.YtabafeckdclekaaGreatDoor
