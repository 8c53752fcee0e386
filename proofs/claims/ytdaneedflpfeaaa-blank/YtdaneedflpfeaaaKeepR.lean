import Derived.Test.YtdaneedflpfeaaaKeepQ
import Derived.Test.YtdaneedflpfeaaaKeepK
import Derived.Deep.RegionHeld3
namespace Go.Proofs.Ytdaneedflpfeaaa
set_option maxRecDepth 100000
open Go.RowKit

def noSl (l : List UInt8) : List UInt8 := l.filter fun c => c != 47
set_option maxHeartbeats 1600000 in
theorem clean_any (s : ByteArray) (w : World) (hs : s.size ≤ 100) : Calls Try.prog 17 #[.string s] w fun e w' => e = .returned (.string (mk (noSl s.data.toList))) ∧ w' = w := by
  go_enter Try.func17, Try.ntmps17
  go_wp2_with fail
  go_loopw [3, 4] (fun v i wr => ∃ (k : Nat) (o : ByteArray), k ≤ s.size ∧ i = .int .i64 (k : Int) ∧ v = .string o ∧ Hid (o = mk (noSl (s.data.toList.take k))) ∧ o.size ≤ k ∧ wr = w) (fun _ i _ => s.size - (intOf i).toNat)
  case atStart => exact ⟨0, ⟨#[]⟩, Nat.zero_le _, rfl, rfl, rfl, Nat.le_refl _, rfl⟩
  case round =>
    obtain ⟨k, o, hk, rfl, rfl, HO, ho, hw⟩ := hrel
    subst hw
    by_cases hlt : k < s.size
    · have htk : s.data.toList.take (k + 1) = s.data.toList.take k ++ [s[k]] := by
        rw [List.take_succ_eq_append_getElem (by simpa using hlt)]; rfl
      by_cases h47 : s[k] = 47
      · have h47' : ((s[k].toNat : Int) == 47) = true := by rw [h47]; rfl
        have HO2 : Hid (o = mk (noSl (s.data.toList.take (k + 1)))) := by
          show o = _
          rw [unhide HO, htk, h47]; simp [noSl]
        clear htk h47 HO
        go_wp2_with fail
        go_roundw
        case rel => exact ⟨k + 1, o, by omega, by go_num, rfl, HO2, by omega, trivial⟩
        case measure => simp [intOf]; omega
      · have h47' : ((s[k].toNat : Int) == 47) = false := beq_eq_false_iff_ne.2 (by intro e; exact h47 (UInt8.toNat_inj.1 (by show _ = 47; omega)))
        have hx : s.extract k (k + 1) = mk [s[k]] := by
          rw [ext_mkK, List.drop_eq_getElem_cons (show k < s.data.toList.length from hlt), show k + 1 - k = 1 by omega]
          rfl
        have HO2 : Hid (o ++ s.extract k (k + 1) = mk (noSl (s.data.toList.take (k + 1)))) := by
          show _ = _
          rw [unhide HO, htk, hx, mk_append]
          congr 1
          simp [noSl, h47]
        have hz : (s.extract k (k + 1)).size = 1 := by rw [ByteArray.size_extract]; omega
        have hz' : (s.extract k (k + 1)).size ≤ 1 := by omega
        have HZ : Hid ((o ++ s.extract k (k + 1)).size ≤ k + 1) := by show _ ≤ _; rw [ByteArray.size_append]; omega
        clear htk h47 HO hx hz
        go_wp2_with fail
        go_roundw
        case rel => exact ⟨k + 1, _, by omega, by go_num, rfl, HO2, unhide HZ, trivial⟩
        case measure => simp [intOf]; omega
    · have hall : s.data.toList.take k = s.data.toList := List.take_of_length_le (by show s.size ≤ k; omega)
      rw [hall] at HO
      clear hall
      go_wp2_with fail
      go_ret
      exact ⟨ret_str (unhide HO), rfl⟩
def tblB (c : UInt8) : UInt8 := match c.toNat % 8 with | 0 => 97 | 1 => 98 | 2 => 32 | 3 => 42 | 4 => 47 | 5 => 10 | 6 => 128 | _ => 39
theorem tblB_cases (x : UInt8) : (x.toNat % 8 = 0 ∧ (tblB x).toNat = 97) ∨ (x.toNat % 8 = 1 ∧ (tblB x).toNat = 98) ∨ (x.toNat % 8 = 2 ∧ (tblB x).toNat = 32) ∨ (x.toNat % 8 = 3 ∧ (tblB x).toNat = 42) ∨ (x.toNat % 8 = 4 ∧ (tblB x).toNat = 47) ∨ (x.toNat % 8 = 5 ∧ (tblB x).toNat = 10) ∨ (x.toNat % 8 = 6 ∧ (tblB x).toNat = 128) ∨ (x.toNat % 8 = 7 ∧ (tblB x).toNat = 39) := by
  have hq : x.toNat % 8 < 8 := Nat.mod_lt _ (by decide)
  unfold tblB
  generalize x.toNat % 8 = q at *
  rcases (by omega : q = 0 ∨ q = 1 ∨ q = 2 ∨ q = 3 ∨ q = 4 ∨ q = 5 ∨ q = 6 ∨ q = 7) with rfl | rfl | rfl | rfl | rfl | rfl | rfl | rfl <;> decide
/-- What stands in the second comment. -/
def blkL (c : ByteArray) : List UInt8 := (c.data.toList.take 20).map tblB
/-- The text with comments. -/
def blkT (s c : ByteArray) (m : Nat) : ByteArray := mk (s.data.toList.take m ++ (comm (wordL c.data.toList) (noSl (blkL c)) ++ [125]))
theorem blk_le (c : ByteArray) : (blkL c).length ≤ 20 ∧ (noSl (blkL c)).length ≤ 20 := by
  have h1 : (blkL c).length ≤ 20 := by unfold blkL; rw [List.length_map, List.length_take]; omega
  have h2 : (noSl (blkL c)).length ≤ (blkL c).length := List.length_filter_le _ _
  omega
theorem toList_data (s : ByteArray) : s.toList = s.data.toList := mk_toList s.data.toList
theorem blk_text (s : ByteArray) (m : Nat) (W Z : List UInt8) : ((((s.extract 0 m ++ (⟨#[47, 47]⟩ : ByteArray)) ++ mk W) ++ (⟨#[10, 47, 42]⟩ : ByteArray)) ++ mk Z) ++ (⟨#[32, 42, 47, 125]⟩ : ByteArray) = mk (s.data.toList.take m ++ (comm W Z ++ [125])) := by
  rw [ext_mkK, cat_mk, mk_append, cat_mk, mk_append, cat_mk]
  congr 1
  simp [comm]
theorem blk_facts {s : ByteArray} {l : List Rw} (hl : Prg s l) {m : Nat} (hs : s.size = m + 1) (h125 : bt s m = 125) (hno : isOk (outT (s.extract 0 m)) = false) (c : ByteArray) (t : ByteArray) (ht : t = blkT s c m) :
    (t.size ≤ 600 ∧ isOk (outT t) = true ∧ distT s t = (1, 0)) ∨ (600 < t.size ∧ isOk (outT t) = false) := by
  subst ht
  by_cases h6 : (blkT s c m).size ≤ 600
  · left
    obtain ⟨l', h1, h2⟩ := blank_pure hl hs h125 hno (wordL c.data.toList) (noSl (blkL c)) (fun x hx e => by
      have := (word_nam c.data.toList).word x hx
      rw [e] at this
      revert this; decide) (fun x hx => by
      have := (List.mem_filter.1 hx).2
      simpa using this) h6
    have h1' : Prg (blkT s c m) l' := h1
    refine ⟨h6, h1'.ok, ?_⟩
    rw [hl.dist h1', h2]; rfl
  · right
    refine ⟨by omega, ?_⟩
    cases h : isOk (outT (blkT s c m)) with
    | false => rfl
    | true =>
      obtain ⟨l', h1⟩ := isOk_prg h
      obtain ⟨_, _, h', _⟩ := outT_mod h1.out
      exact absurd h' h6
theorem tab_get {L : List UInt8} {i : Nat} {x : UInt8} (hx : L[i]? = some x) : (L.map tblB)[i]? = some (tblB x) := by
  rw [List.getElem?_map, hx]; rfl


end Go.Proofs.Ytdaneedflpfeaaa
