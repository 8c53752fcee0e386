import Derived.Test.YtdaneedflpfeaaaGreatDoorOutF
import Derived.Test.YtdaneedflpfeaaaGreatDoorPatV
namespace Go.Proofs.YtdaneedflpfeaaaGreatDoor
set_option maxRecDepth 100000
open Go.RowKit

/-- How many lines. -/
def cntL (l : List UInt8) : Nat := l.count 10
theorem Tryz.infoStrK : (Tryz.prog.info? 9).map (fun i => (i.zero, i.size, i.bytes)) = some (some (.string ⟨#[]⟩), 1, 16) := by kernel_rfl
theorem take_snocL (s : ByteArray) (k : Nat) (h : k < s.size) : s.data.toList.take (k + 1) = s.data.toList.take k ++ [s[k]] := by
  rw [List.take_succ_eq_append_getElem (by simpa using h)]; rfl
theorem cnt_le (l : List UInt8) : cntL l ≤ l.length := List.count_le_length

set_option maxHeartbeats 1600000 in
theorem keepLines_any (s : ByteArray) (w : World) (hs : s.size ≤ 1100000) :
    Calls Tryz.prog 18 #[.string s] w fun e w' => Below w.heap.size w w' ∧ ∃ p c, e = .returned (.slice p (cntL s.data.toList) c) := by
  obtain ⟨i0, hi, hz0, hz1, hz2⟩ := info_parts Tryz.infoStrK
  go_enter Tryz.func18, Tryz.ntmps18
  go_wp2_with fail
  go_loopw [3, 4, 5] (fun v f i wr => ∃ (k n : Nat) (L : List Value), k ≤ s.size ∧ n ≤ k ∧ i = .int .i64 (k : Int) ∧ f = .int .i64 (n : Int) ∧ wr.ownsRow w.heap.size 9 1 v (cntL (s.data.toList.take k)) L ∧ Below w.heap.size w wr) (fun _ _ i _ => s.size - (intOf i).toNat)
  case atStart => exact ⟨0, 0, [], Nat.zero_le _, Nat.le_refl _, rfl, rfl, World.ownsRow_nil _ _ _ _, Below.refl _ _⟩
  case round =>
    obtain ⟨k, n, L, hk, hn, rfl, rfl, hown, hB⟩ := hrel
    have HO := hide hown
    have HB := hide hB
    have hsz := hB.size
    have hcl : cntL (s.data.toList.take k) ≤ 1100000 := by
      have := cnt_le (s.data.toList.take k)
      rw [List.length_take] at this
      omega
    clear hown hB
    by_cases hlt : k < s.size
    · have hsn := take_snocL s k hlt
      by_cases h10 : s[k] = 10
      · have h10' : ((s[k].toNat : Int) == 10) = true := by rw [h10]; rfl
        have HCN : Hid (cntL (s.data.toList.take (k + 1)) = cntL (s.data.toList.take k) + 1) := by
          show _ = _
          rw [hsn, h10, cntL, List.count_append]; rfl
        clear hsn h10
        generalize cntL (s.data.toList.take k) = c at *
        go_wp2_with (first
          | (at_builtin; refine wpList_append_lies _ rfl (.tmp 16) (.tmp 21) 33 rfl w.heap.size 9 i0 (.string ⟨#[]⟩) 1 16 Tryz.underlying33 hi hz0 hz1 hz2 rfl (by decide) _ c L rfl ((unhide HO).alloc _) ⟨wr.heap.size, 0, none⟩ 1 1 [.string (s.extract n k)] rfl rfl (news_of (heap_alloc_new _ _)) (by intro u hu; simp at hu; subst hu; rfl) (by decide) (by unfold maxLen; omega) (by omega) (by simp; omega) _ rfl ?_)
          | fail)
        intro g cap w2 hown2 hgrow _ hlt2
        have HB2 : Hid (Below w.heap.size w w2) := ((unhide HB).alloc hsz _).grown hgrow (by simp; omega) (fun j hj => ((unhide HO).lt j hj).1)
        have HO2 := hide hown2
        clear hown2 hgrow HO HB
        go_wp2_with fail
        go_roundw
        case rel => exact ⟨k + 1, k + 1, _, by omega, by omega, by go_num, by go_num, by rw [unhide HCN]; exact unhide HO2, unhide HB2⟩
        case measure => simp [intOf]; omega
      · have h10' : ((s[k].toNat : Int) == 10) = false := u8_ne h10
        have HCN : Hid (cntL (s.data.toList.take (k + 1)) = cntL (s.data.toList.take k)) := by
          show _ = _
          rw [hsn, cntL, List.count_append, List.count_singleton, if_neg (by simpa using h10)]; rfl
        clear hsn h10
        generalize cntL (s.data.toList.take k) = c at *
        go_wp2_with fail
        go_roundw
        case rel => exact ⟨k + 1, n, L, by omega, by omega, by go_num, rfl, by rw [unhide HCN]; exact unhide HO, unhide HB⟩
        case measure => simp [intOf]; omega
    · have hkl : k = s.size := by omega
      have hall : s.data.toList.take k = s.data.toList := List.take_of_length_le (by show s.size ≤ k; omega)
      rw [hall] at HO
      clear hkl hall hcl
      have hsh : ∃ p c', u3 = .slice p (cntL s.data.toList) c' := by
        rcases (unhide HO).2 with ⟨h0, h1⟩ | ⟨g, cap, cur, h0, _⟩
        · exact ⟨none, 0, by rw [h0, h1]⟩
        · exact ⟨_, _, h0⟩
      obtain ⟨p, c', rfl⟩ := hsh
      go_wp2_with fail
      go_ret
      exact ⟨unhide HB, p, c', rfl⟩

end Go.Proofs.YtdaneedflpfeaaaGreatDoor
