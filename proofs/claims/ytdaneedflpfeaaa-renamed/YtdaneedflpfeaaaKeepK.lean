import Derived.Test.YtdaneedflpfeaaaKeepJ
import Derived.Lib.ConvBytes
namespace Go.Proofs.Ytdaneedflpfeaaa
set_option maxRecDepth 100000
open Go.RowKit

/-- Bytes in memory that are the call's own. -/
structure BS (w : World) (b : Nat) (l : List UInt8) : Prop where
  ex : ∃ C fr, w.heap[b]? = some (.cells C 5 fr) ∧ (∀ (j : Nat) c, l[j]? = some c → C[j]? = some (.int .u8 (c.toNat : Int))) ∧ l.length ≤ fr.1
theorem BS.cell {w : World} {b : Nat} {l : List UInt8} (h : BS w b l) {j : Nat} {c : UInt8} (hj : l[j]? = some c) : w.cell? ⟨b, j, none⟩ = some (.int .u8 (c.toNat : Int)) ∧ w.frozen? ⟨b, j, none⟩ = false := by
  obtain ⟨C, fr, h1, h2, h3⟩ := h.ex
  have hl := (List.getElem?_eq_some_iff.1 hj).1
  constructor
  · rw [cell_of_row w b j C _ fr h1]; exact h2 j c hj
  · simp [World.frozen?, h1]; omega
theorem BS.set {w : World} {b : Nat} {l : List UInt8} (h : BS w b l) {j : Nat} (hj : j < l.length) (c : UInt8) : BS (w.setCell ⟨b, j, none⟩ (.int .u8 (c.toNat : Int))) b (l.set j c) := by
  obtain ⟨C, fr, h1, h2, h3⟩ := h.ex
  refine ⟨C.setIfInBounds j (.int .u8 (c.toNat : Int)), fr, by simp [World.setCell, Array.getElem?_modify, h1], fun i d hi => ?_, by rw [List.length_set]; exact h3⟩
  rw [Array.getElem?_setIfInBounds]
  rw [List.getElem?_set] at hi
  have hjC : j < C.size := by
    have := h2 j l[j] (List.getElem?_eq_getElem hj)
    exact (Array.getElem?_eq_some_iff.1 this).1
  by_cases e : j = i
  · subst e
    simp [hj] at hi
    subst hi
    simp [hjC]
  · rw [if_neg e] at hi ⊢
    exact h2 i d hi
theorem BS.made (w : World) (s : ByteArray) : BS (Go.Lib.bytesWorld w 5 s) w.heap.size s.data.toList := by
  refine ⟨_, _, Go.Lib.bytesWorld_at_new w 5 s, fun j c hj => ?_, ?_⟩
  · have hl := (List.getElem?_eq_some_iff.1 hj).1
    have hj' : j < s.size := hl
    have := Go.Lib.bytesWorld_cell w 5 s j hj'
    rw [cell_of_row _ _ _ _ _ _ (Go.Lib.bytesWorld_at_new w 5 s)] at this
    rw [this]
    simp [List.getD, hj]
  · show s.data.toList.length ≤ (Go.Lib.bytesCells w 5 s).size
    have : s.data.toList.length = s.data.size := by simp
    simp [Go.Lib.bytesCells]
theorem bytes_below (w : World) (s : ByteArray) : Below w.heap.size w (Go.Lib.bytesWorld w 5 s) := by
  refine ⟨rfl, rfl, rfl, by rw [Go.Lib.bytesWorld_size]; omega, fun k hk => Go.Lib.bytesWorld_at_old w _ s k hk⟩

theorem bits_and7 : ∀ n : Fin 256, bits .and .u8 (n.val : Int) 7 = ((n.val % 8 : Nat) : Int) := by decide
theorem and7 (x : UInt8) : bits .and .u8 (x.toNat : Int) 7 = ((x.toNat % 8 : Nat) : Int) := bits_and7 ⟨x.toNat, x.toNat_lt⟩
theorem tbl_cases (x : UInt8) : (x.toNat % 8 = 0 ∧ (tblW x).toNat = 97) ∨ (x.toNat % 8 = 1 ∧ (tblW x).toNat = 98) ∨ (x.toNat % 8 = 2 ∧ (tblW x).toNat = 99) ∨ (x.toNat % 8 = 3 ∧ (tblW x).toNat = 49) ∨ (x.toNat % 8 = 4 ∧ (tblW x).toNat = 50) ∨ (x.toNat % 8 = 5 ∧ (tblW x).toNat = 51) ∨ (x.toNat % 8 = 6 ∧ (tblW x).toNat = 95) ∨ (x.toNat % 8 = 7 ∧ (tblW x).toNat = 88) := by
  have hq : x.toNat % 8 < 8 := Nat.mod_lt _ (by decide)
  unfold tblW
  generalize x.toNat % 8 = q at *
  rcases (by omega : q = 0 ∨ q = 1 ∨ q = 2 ∨ q = 3 ∨ q = 4 ∨ q = 5 ∨ q = 6 ∨ q = 7) with rfl | rfl | rfl | rfl | rfl | rfl | rfl | rfl <;> decide
theorem word_get {sl : List UInt8} {i : Nat} {x : UInt8} (h1 : 1 ≤ i) (hx : (110 :: sl.take 8)[i]? = some x) : (wordL sl)[i]? = some (tblW x) := by
  obtain ⟨j, rfl⟩ : ∃ j, i = j + 1 := ⟨i - 1, by omega⟩
  unfold wordL
  rw [List.getElem?_cons_succ] at hx ⊢
  rw [List.getElem?_map, hx]; rfl
theorem set_take {W L : List UInt8} {i : Nat} (hl : W.length = L.length) (hi : i < W.length) : (W.take i ++ L.drop i).set i W[i] = W.take (i + 1) ++ L.drop (i + 1) := by
  rw [List.set_append_right _ _ (by rw [List.length_take]; omega), List.length_take, Nat.min_eq_left (by omega), Nat.sub_self, List.take_succ_eq_append_getElem hi, List.append_assoc]
  congr 1
  rw [List.drop_eq_getElem_cons (show i < L.length by omega)]
  rfl
set_option maxHeartbeats 1600000 in
theorem word_core (s S : ByteArray) (w : World) (hS : S.data.toList = 110 :: s.data.toList.take 8)
    (hpre : (s.size ≤ 8 ∧ S = ⟨#[110]⟩ ++ s) ∨ (8 < s.size ∧ S = ⟨#[110]⟩ ++ s.extract 0 8)) : Calls Try.prog 16 #[.string s] w fun e w' => e = .returned (.string (mk (wordL s.data.toList))) ∧ Below w.heap.size w w' := by
  have hcv : ∀ (T : ByteArray) (w : World), (convert 9 37 (.string T)).run Try.prog w = .ok (.slice (some ⟨w.heap.size, 0, none⟩) T.size (grownCap w T.size 0 5)) (Go.Lib.bytesWorld w 5 T) := fun T w => Go.Lib.run_convert_string_bytes (P := Try.prog) w 9 37 5 T Try.underlying9 Try.underlying37 Try.underlying5
  have HBS := hide (BS.made w S)
  have HBW := hide (bytes_below w S)
  rcases hpre with ⟨h8, hSe⟩ | ⟨h8, hSe⟩
  · have hSe' := hSe.symm
    have HSE := hide hSe
    clear hSe
    go_enter Try.func16, Try.ntmps16
    go_wp2_with fail
    have hSl : S.size = (wordL s.data.toList).length := by
      have : S.size = S.data.toList.length := rfl
      rw [this, hS]
      simp [wordL]
    have hS9 : S.size ≤ 9 := by have := word_len s.data.toList; omega
    have HSL := hide hSl
    have HS := hide hS
    clear hSl hS
    generalize grownCap w S.size 0 5 = cap at *
    clear hSe' hcv
    go_loopw [4] (fun iv wr => ∃ i : Nat, 1 ≤ i ∧ i ≤ S.size ∧ iv = .int .i64 (i : Int) ∧ BS wr w.heap.size ((wordL s.data.toList).take i ++ S.data.toList.drop i) ∧ Below w.heap.size w wr) (fun iv _ => S.size - (intOf iv).toNat)
    case atStart =>
      refine ⟨1, Nat.le_refl _, by rw [unhide HSL]; simp [wordL], rfl, ?_, unhide HBW⟩
      have e : (wordL s.data.toList).take 1 ++ S.data.toList.drop 1 = S.data.toList := by rw [unhide HS]; simp [wordL]
      rw [e]; exact unhide HBS
    case round =>
      clear HBS HBW
      obtain ⟨i, h1, h2, rfl, hbs, hB⟩ := hrel
      by_cases hlt : i < S.size
      · have hiS : i < S.data.toList.length := hlt
        have hiW : i < (wordL s.data.toList).length := by rw [← unhide HSL]; exact hlt
        have hlen : (wordL s.data.toList).length = S.data.toList.length := (unhide HSL).symm
        obtain ⟨x, hx⟩ : ∃ x, S.data.toList[i]? = some x := ⟨_, List.getElem?_eq_getElem hiS⟩
        have hz : ((wordL s.data.toList).take i ++ S.data.toList.drop i)[i]? = some x := by
          rw [List.getElem?_append_right (by rw [List.length_take]; omega), List.length_take, Nat.min_eq_left (by omega), Nat.sub_self, List.getElem?_drop, Nat.add_zero]; exact hx
        obtain ⟨k1, k2⟩ := hbs.cell hz
        have hw : (wordL s.data.toList)[i]? = some (tblW x) := word_get h1 (by rw [← unhide HS]; exact hx)
        have hw' : (wordL s.data.toList)[i]'hiW = tblW x := by
          rw [List.getElem?_eq_getElem hiW] at hw; exact Option.some.inj hw
        have HNEW : Hid (BS (wr.setCell ⟨w.heap.size, i, none⟩ (.int .u8 ((tblW x).toNat : Int))) w.heap.size ((wordL s.data.toList).take (i + 1) ++ S.data.toList.drop (i + 1)) ∧ Below w.heap.size w (wr.setCell ⟨w.heap.size, i, none⟩ (.int .u8 ((tblW x).toNat : Int)))) := by
          refine ⟨?_, hB.setCell (p := ⟨w.heap.size, i, none⟩) (Nat.le_refl _) _⟩
          rw [← set_take hlen hiW, hw']
          exact hbs.set (by rw [List.length_append, List.length_take, List.length_drop]; omega) _
        have ha := and7 x
        have HT := hide (tbl_cases x)
        clear hiS hiW hlen hx hz hw hw' hbs hB HSL HS HSE
        rcases unhide HT with ⟨e1, e2⟩ | ⟨e1, e2⟩ | ⟨e1, e2⟩ | ⟨e1, e2⟩ | ⟨e1, e2⟩ | ⟨e1, e2⟩ | ⟨e1, e2⟩ | ⟨e1, e2⟩
        all_goals
          rw [e1] at ha
          rw [e2] at HNEW
          clear HT e1 e2
          go_wp2_with fail
          go_roundw
          case rel => exact ⟨i + 1, by omega, by omega, by go_num, (unhide HNEW).1, (unhide HNEW).2⟩
          case measure => simp [intOf]; omega
      · have hi : i = S.size := by omega
        have hall : (wordL s.data.toList).take i ++ S.data.toList.drop i = wordL s.data.toList := by
          rw [List.take_of_length_le (by rw [← unhide HSL]; omega), List.drop_of_length_le (by show S.size ≤ i; omega), List.append_nil]
        rw [hall] at hbs
        have hback : ∀ wx : World, wx = wr → (convert 37 9 (.slice (some ⟨w.heap.size, 0, none⟩) S.size cap)).run Try.prog wx = .ok (.string (mk (wordL s.data.toList))) wx := fun wx hwx => by
          subst hwx
          have := run_convert_bytes_back (P := Try.prog) wx 37 9 5 ⟨w.heap.size, 0, none⟩ cap (wordL s.data.toList) Try.underlying37 Try.underlying5 Try.underlying9 (fun j hj => by
            have e : (⟨w.heap.size, 0, none⟩ : Addr).add j = ⟨w.heap.size, j, none⟩ := by unfold Addr.add; split <;> simp_all
            rw [e]
            exact (hbs.cell (List.getElem?_eq_getElem hj)).1)
          rw [← unhide HSL] at this
          exact this
        have hbk := hback wr rfl
        have HB := hide hB
        clear hB hbs hback hall hi HSL HS HSE
        obtain ⟨R, hR⟩ : ∃ R, R = mk (wordL s.data.toList) := ⟨_, rfl⟩
        rw [← hR] at hbk
        have HR := hide hR
        clear hR
        go_wp2_with fail
        go_ret
        exact ⟨ret_str (unhide HR), unhide HB⟩
  · have hSe' := hSe.symm
    have HSE := hide hSe
    clear hSe
    go_enter Try.func16, Try.ntmps16
    go_wp2_with fail
    have hSl : S.size = (wordL s.data.toList).length := by
      have : S.size = S.data.toList.length := rfl
      rw [this, hS]
      simp [wordL]
    have hS9 : S.size ≤ 9 := by have := word_len s.data.toList; omega
    have HSL := hide hSl
    have HS := hide hS
    clear hSl hS
    generalize grownCap w S.size 0 5 = cap at *
    clear hSe' hcv
    go_loopw [4] (fun iv wr => ∃ i : Nat, 1 ≤ i ∧ i ≤ S.size ∧ iv = .int .i64 (i : Int) ∧ BS wr w.heap.size ((wordL s.data.toList).take i ++ S.data.toList.drop i) ∧ Below w.heap.size w wr) (fun iv _ => S.size - (intOf iv).toNat)
    case atStart =>
      refine ⟨1, Nat.le_refl _, by rw [unhide HSL]; simp [wordL], rfl, ?_, unhide HBW⟩
      have e : (wordL s.data.toList).take 1 ++ S.data.toList.drop 1 = S.data.toList := by rw [unhide HS]; simp [wordL]
      rw [e]; exact unhide HBS
    case round =>
      clear HBS HBW
      obtain ⟨i, h1, h2, rfl, hbs, hB⟩ := hrel
      by_cases hlt : i < S.size
      · have hiS : i < S.data.toList.length := hlt
        have hiW : i < (wordL s.data.toList).length := by rw [← unhide HSL]; exact hlt
        have hlen : (wordL s.data.toList).length = S.data.toList.length := (unhide HSL).symm
        obtain ⟨x, hx⟩ : ∃ x, S.data.toList[i]? = some x := ⟨_, List.getElem?_eq_getElem hiS⟩
        have hz : ((wordL s.data.toList).take i ++ S.data.toList.drop i)[i]? = some x := by
          rw [List.getElem?_append_right (by rw [List.length_take]; omega), List.length_take, Nat.min_eq_left (by omega), Nat.sub_self, List.getElem?_drop, Nat.add_zero]; exact hx
        obtain ⟨k1, k2⟩ := hbs.cell hz
        have hw : (wordL s.data.toList)[i]? = some (tblW x) := word_get h1 (by rw [← unhide HS]; exact hx)
        have hw' : (wordL s.data.toList)[i]'hiW = tblW x := by
          rw [List.getElem?_eq_getElem hiW] at hw; exact Option.some.inj hw
        have HNEW : Hid (BS (wr.setCell ⟨w.heap.size, i, none⟩ (.int .u8 ((tblW x).toNat : Int))) w.heap.size ((wordL s.data.toList).take (i + 1) ++ S.data.toList.drop (i + 1)) ∧ Below w.heap.size w (wr.setCell ⟨w.heap.size, i, none⟩ (.int .u8 ((tblW x).toNat : Int)))) := by
          refine ⟨?_, hB.setCell (p := ⟨w.heap.size, i, none⟩) (Nat.le_refl _) _⟩
          rw [← set_take hlen hiW, hw']
          exact hbs.set (by rw [List.length_append, List.length_take, List.length_drop]; omega) _
        have ha := and7 x
        have HT := hide (tbl_cases x)
        clear hiS hiW hlen hx hz hw hw' hbs hB HSL HS HSE
        rcases unhide HT with ⟨e1, e2⟩ | ⟨e1, e2⟩ | ⟨e1, e2⟩ | ⟨e1, e2⟩ | ⟨e1, e2⟩ | ⟨e1, e2⟩ | ⟨e1, e2⟩ | ⟨e1, e2⟩
        all_goals
          rw [e1] at ha
          rw [e2] at HNEW
          clear HT e1 e2
          go_wp2_with fail
          go_roundw
          case rel => exact ⟨i + 1, by omega, by omega, by go_num, (unhide HNEW).1, (unhide HNEW).2⟩
          case measure => simp [intOf]; omega
      · have hi : i = S.size := by omega
        have hall : (wordL s.data.toList).take i ++ S.data.toList.drop i = wordL s.data.toList := by
          rw [List.take_of_length_le (by rw [← unhide HSL]; omega), List.drop_of_length_le (by show S.size ≤ i; omega), List.append_nil]
        rw [hall] at hbs
        have hback : ∀ wx : World, wx = wr → (convert 37 9 (.slice (some ⟨w.heap.size, 0, none⟩) S.size cap)).run Try.prog wx = .ok (.string (mk (wordL s.data.toList))) wx := fun wx hwx => by
          subst hwx
          have := run_convert_bytes_back (P := Try.prog) wx 37 9 5 ⟨w.heap.size, 0, none⟩ cap (wordL s.data.toList) Try.underlying37 Try.underlying5 Try.underlying9 (fun j hj => by
            have e : (⟨w.heap.size, 0, none⟩ : Addr).add j = ⟨w.heap.size, j, none⟩ := by unfold Addr.add; split <;> simp_all
            rw [e]
            exact (hbs.cell (List.getElem?_eq_getElem hj)).1)
          rw [← unhide HSL] at this
          exact this
        have hbk := hback wr rfl
        have HB := hide hB
        clear hB hbs hback hall hi HSL HS HSE
        obtain ⟨R, hR⟩ : ∃ R, R = mk (wordL s.data.toList) := ⟨_, rfl⟩
        rw [← hR] at hbk
        have HR := hide hR
        clear hR
        go_wp2_with fail
        go_ret
        exact ⟨ret_str (unhide HR), unhide HB⟩
theorem word_any (s : ByteArray) (w : World) : Calls Try.prog 16 #[.string s] w fun e w' => e = .returned (.string (mk (wordL s.data.toList))) ∧ Below w.heap.size w w' := by
  by_cases h8 : s.size ≤ 8
  · refine word_core s (⟨#[110]⟩ ++ s) w ?_ (.inl ⟨h8, rfl⟩)
    show (mk [110] ++ s).data.toList = _
    rw [cat_mk, List.take_of_length_le (show s.data.toList.length ≤ 8 from h8)]
    simp [mk]
  · refine word_core s (⟨#[110]⟩ ++ s.extract 0 8) w ?_ (.inr ⟨by omega, rfl⟩)
    show (mk [110] ++ s.extract 0 8).data.toList = _
    rw [cat_mk, ext_mkK]
    simp [mk]

end Go.Proofs.Ytdaneedflpfeaaa
