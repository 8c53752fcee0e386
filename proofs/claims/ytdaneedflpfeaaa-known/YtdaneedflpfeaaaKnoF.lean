import Derived.Test.YtdaneedflpfeaaaKnoE
namespace Go.Proofs.Ytdaneedflpfeaaa
set_option maxRecDepth 100000
open Go.RowKit

theorem row_at {wq : World} {g : Nat} {cs : Array Value} {T : TypeId} {i : Nat} {v : Value} (h : wq.heap[g]? = some (.cells cs T (0, 0))) (hc : cs[i]? = some v) : wq.cell? ⟨g, i, none⟩ = some v := by
  rw [cell_of_row wq g _ _ _ (0, 0) h]; exact hc
theorem row_lt {wq : World} {g : Nat} {o : Obj} (h : wq.heap[g]? = some o) : g < wq.heap.size := (Array.getElem?_eq_some_iff.1 h).1

set_option maxHeartbeats 3200000 in
theorem known_lot (k : Int) (r : Nat) (w : World) (h1 : -9223372036854775808 ≤ k) (h2 : k ≤ 9223372036854775807) (hr : r < 13) (hk : pickN k 60 = (r : Int)) :
    Calls Try.prog 8 #[.int .i64 k] w fun e w' => e = .returned (.bool true) ∧ Below w.heap.size w w' := by
  have HL := hide (fun wx => lots_any wx)
  have HM := hide (fun wx => pairs_any wx)
  have HN := hide (fun wx => patches_any wx)
  have HK : Hid (∀ wx, Calls Try.prog 21 #[.int .i64 k, .int .i64 60] wx fun e w' => e = .returned (.int .i64 (r : Int)) ∧ Below wx.heap.size wx w') := fun wx => by
    have := pick_any k 60 wx h1 h2 (by decide) (by decide); rw [hk] at this; exact this
  have HS : Hid (∀ wx, Calls Try.prog 10 #[.string (lotS r)] wx fun e w' => e = .returned (.tuple #[.string (lotT r), .int .i64 0, .int .i64 0]) ∧ Below wx.heap.size wx w') := fun wx => by
    have := show_any (lotS r) wx; rw [lot_all r hr] at this; exact this
  have HC : Hid (∀ (wq : World) (g : Nat), wq.heap[g]? = some (.cells lotC 46 (0, 0)) → wq.cell? ⟨g, r * 2, none⟩ = some (.string (lotS r)) ∧ wq.cell? ⟨g, r * 2 + 1, none⟩ = some (.string (lotT r))) := fun wq g h => ⟨row_at h (lot_cells r hr).1, row_at h (lot_cells r hr).2⟩
  clear hk h1 h2
  have hbb : ((lotT r).toList == (lotT r).toList) = true := beq_self_eq_true _
  generalize lotS r = s at *
  generalize lotT r = t at *
  go_enter Try.func8, Try.ntmps8
  go_wp2_with fail
  refine (unhide HL _).mono ?_
  rintro e w1 ⟨hB1, g1, rfl, hg1⟩
  have HB1 := hide hB1
  have HG1 := hide hg1
  clear hB1 hg1
  go_wp2_with fail
  refine (unhide HM _).mono ?_
  rintro e w2 ⟨hB2, g2, rfl, _⟩
  have HG2 := hide ((hB2.block _ (row_lt (unhide HG1))).trans (unhide HG1))
  have HB2 := hide ((unhide HB1).trans (hB2.mono (unhide HB1).size))
  clear hB2 HB1 HG1
  go_wp2_with fail
  refine (unhide HN _).mono ?_
  rintro e w3 ⟨hB3, g3, rfl, _⟩
  have HG3 := hide ((hB3.block _ (row_lt (unhide HG2))).trans (unhide HG2))
  have HB3 := hide ((unhide HB2).trans (hB3.mono (unhide HB2).size))
  clear hB3 HB2 HG2
  go_wp2_with fail
  refine (unhide HK _).mono ?_
  rintro e w4 ⟨rfl, hB4⟩
  have hg4 := (hB4.block _ (row_lt (unhide HG3))).trans (unhide HG3)
  obtain ⟨c0, c1⟩ := unhide HC _ _ hg4
  have HG4 := hide hg4
  have HB4 := hide ((unhide HB3).trans (hB4.mono (unhide HB3).size))
  clear hB4 HB3 HG3 hg4
  go_wp2_with fail
  refine (unhide HS _).mono ?_
  rintro e w5 ⟨rfl, hB5⟩
  obtain ⟨d0, d1⟩ := unhide HC _ _ ((hB5.block _ (row_lt (unhide HG4))).trans (unhide HG4))
  have HB5 := hide ((unhide HB4).trans (hB5.mono (unhide HB4).size))
  clear hB5 HB4 HG4 c0 c1
  go_wp2_with fail
  go_ret
  exact ⟨ret_bool (by first | rfl | simp), unhide HB5⟩

abbrev KpS (g j : Nat) (a b : ByteArray) (n : Int) (wq : World) : Prop := wq.cell? ⟨g, j * 3, none⟩ = some (.string a) ∧ wq.cell? ⟨g, j * 3 + 1, none⟩ = some (.string b) ∧ wq.cell? ⟨g, j * 3 + 2, none⟩ = some (.int .i64 n)

set_option maxHeartbeats 3200000 in
theorem known_pair (k : Int) (j : Nat) (w : World) (h1 : -9223372036854775808 ≤ k) (h2 : k ≤ 9223372036854775807) (hj : j < 14) (hk : pickN k 60 = (j : Int) + 13) :
    Calls Try.prog 8 #[.int .i64 k] w fun e w' => e = .returned (.bool true) ∧ Below w.heap.size w w' := by
  have HL := hide (fun wx => lots_any wx)
  have HM := hide (fun wx => pairs_any wx)
  have HN := hide (fun wx => patches_any wx)
  have HK : Hid (∀ wx, Calls Try.prog 21 #[.int .i64 k, .int .i64 60] wx fun e w' => e = .returned (.int .i64 ((j : Int) + 13)) ∧ Below wx.heap.size wx w') := fun wx => by
    have := pick_any k 60 wx h1 h2 (by decide) (by decide); rw [hk] at this; exact this
  have HD : Hid (∀ wx, Calls Try.prog 13 #[.string (parA j), .string (parB j)] wx fun e w' => e = .returned (.tuple #[.int .i64 (parD j : Int), .int .i64 0]) ∧ Below wx.heap.size wx w') := fun wx => by
    have := dist_any (parA j) (parB j) wx; rw [(par_all j hj).1] at this; exact this
  have HE : Hid (∀ wx, Calls Try.prog 13 #[.string (parB j), .string (parA j)] wx fun e w' => e = .returned (.tuple #[.int .i64 (parD j : Int), .int .i64 0]) ∧ Below wx.heap.size wx w') := fun wx => by
    have := dist_any (parB j) (parA j) wx; rw [(par_all j hj).2] at this; exact this
  have HC : Hid (∀ (wq : World) (g : Nat), wq.heap[g]? = some (.cells parC 48 (0, 0)) → KpS g j (parA j) (parB j) (parD j : Int) wq) := fun wq g h => ⟨row_at h (par_cells_ j hj).1, row_at h (par_cells_ j hj).2.1, row_at h (par_cells_ j hj).2.2⟩
  clear hk h1 h2
  have hnl : ((j : Int) + 13 < 13) = False := by simp; omega
  have hjl : ((j : Int) < 14) = True := by simp; omega
  have n1 : (0 : Int) ≤ (j : Int) := by omega
  have n2 : (j : Int) < 14 := by omega
  generalize parA j = a at *
  generalize parB j = b at *
  generalize ((parD j : Nat) : Int) = n at *
  go_enter Try.func8, Try.ntmps8
  go_wp2_with fail
  refine (unhide HL _).mono ?_
  rintro e w1 ⟨hB1, g1, rfl, _⟩
  have HB1 := hide hB1
  clear hB1
  go_wp2_with fail
  refine (unhide HM _).mono ?_
  rintro e w2 ⟨hB2, g2, rfl, hg2⟩
  have HG2 := hide hg2
  have HB2 := hide ((unhide HB1).trans (hB2.mono (unhide HB1).size))
  clear hB2 HB1 hg2
  go_wp2_with fail
  refine (unhide HN _).mono ?_
  rintro e w3 ⟨hB3, g3, rfl, _⟩
  have HG3 := hide ((hB3.block _ (row_lt (unhide HG2))).trans (unhide HG2))
  have HB3 := hide ((unhide HB2).trans (hB3.mono (unhide HB2).size))
  clear hB3 HB2 HG2
  go_wp2_with fail
  refine (unhide HK _).mono ?_
  rintro e w4 ⟨rfl, hB4⟩
  have HG4 := hide ((hB4.block _ (row_lt (unhide HG3))).trans (unhide HG3))
  have HS4 := hide (unhide HC _ _ (unhide HG4))
  have HB4 := hide ((unhide HB3).trans (hB4.mono (unhide HB3).size))
  clear hB4 HB3 HG3
  go_wp2_with fail
  go_region_held3 (KpS g2 j a b n) (first | exact unhide HS4 | exact unhide HS5) (first | (go_at_call 13; refine (unhide HD _).mono ?_; rintro e w5 ⟨rfl, hB5⟩; have HG5 := hide ((hB5.block _ (row_lt (unhide HG4))).trans (unhide HG4)); have HS5 := hide (unhide HC _ _ (unhide HG5)); have HB5 := hide (((unhide HB4).drew).trans (hB5.mono (by have := (unhide HB4).size; first | omega | (simp; omega)))); clear hB5))
  go_wp2_with fail
  go_region_held3 (KpS g2 j a b n) (first | exact unhide HS5 | exact unhide HS6) (first | (go_at_call 13; refine (unhide HE _).mono ?_; rintro e w6 ⟨rfl, hB6⟩; have HG6 := hide ((hB6.block _ (row_lt (unhide HG5))).trans (unhide HG5)); have HS6 := hide (unhide HC _ _ (unhide HG6)); have HB6 := hide (((unhide HB5).drew).trans (hB6.mono (by have := (unhide HB5).size; first | omega | (simp; omega)))); clear hB6))
  obtain ⟨c0, c1, c2⟩ := unhide HS6
  go_wp2_with fail
  go_ret
  exact ⟨ret_bool (by first | rfl | simp), unhide HB6⟩

set_option maxHeartbeats 3200000 in
theorem known_patch (k : Int) (j : Nat) (w : World) (h1 : -9223372036854775808 ≤ k) (h2 : k ≤ 9223372036854775807) (hj : j < 33) (hk : pickN k 60 = (j : Int) + 27) :
    Calls Try.prog 8 #[.int .i64 k] w fun e w' => e = .returned (.bool true) ∧ Below w.heap.size w w' := by
  have HL := hide (fun wx => lots_any wx)
  have HM := hide (fun wx => pairs_any wx)
  have HN := hide (fun wx => patches_any wx)
  have HK : Hid (∀ wx, Calls Try.prog 21 #[.int .i64 k, .int .i64 60] wx fun e w' => e = .returned (.int .i64 ((j : Int) + 27)) ∧ Below wx.heap.size wx w') := fun wx => by
    have := pick_any k 60 wx h1 h2 (by decide) (by decide); rw [hk] at this; exact this
  have HP : Hid (∀ wx, Calls Try.prog 14 #[.string (pchA j), .string (pchD j)] wx fun e w' => e = .returned (.tuple #[.string (pchS j), .int .i64 (pchE j), .int .i64 (pchP j)]) ∧ Below wx.heap.size wx w') := fun wx =>
    (patch_any (pchA j) (pchD j) wx).mono fun e w' ⟨hB, s, c, p, he, ho⟩ => by
      obtain ⟨rfl, rfl, rfl⟩ := pch_all j hj ho
      exact ⟨he, hB⟩
  have HC : Hid (∀ (wq : World) (g : Nat), wq.heap[g]? = some (.cells pchC 50 (0, 0)) → wq.cell? ⟨g, j * 5, none⟩ = some (.string (pchA j)) ∧ wq.cell? ⟨g, j * 5 + 1, none⟩ = some (.string (pchD j)) ∧ wq.cell? ⟨g, j * 5 + 2, none⟩ = some (.string (pchS j)) ∧ wq.cell? ⟨g, j * 5 + 3, none⟩ = some (.int .i64 (pchE j)) ∧ wq.cell? ⟨g, j * 5 + 4, none⟩ = some (.int .i64 (pchP j))) := fun wq g h => by
    obtain ⟨a0, a1, a2, a3, a4⟩ := pch_cells j hj
    exact ⟨row_at h a0, row_at h a1, row_at h a2, row_at h a3, row_at h a4⟩
  clear hk h1 h2
  have hnl : ((j : Int) + 27 < 13) = False := by simp; omega
  have hn2 : ((j : Int) + 14 < 14) = False := by simp; omega
  have e1 : (j : Int) + 27 - 13 = (j : Int) + 14 := by omega
  have e2 : (j : Int) + 14 - 14 = (j : Int) := by omega
  have n1 : (0 : Int) ≤ (j : Int) := by omega
  have n2 : (j : Int) < 33 := by omega
  have hbb : ((pchS j).toList == (pchS j).toList) = true := beq_self_eq_true _
  generalize pchA j = a at *
  generalize pchD j = d at *
  generalize pchS j = s at *
  generalize pchE j = c at *
  generalize pchP j = p at *
  go_enter Try.func8, Try.ntmps8
  go_wp2_with fail
  refine (unhide HL _).mono ?_
  rintro e w1 ⟨hB1, g1, rfl, _⟩
  have HB1 := hide hB1
  clear hB1
  go_wp2_with fail
  refine (unhide HM _).mono ?_
  rintro e w2 ⟨hB2, g2, rfl, _⟩
  have HB2 := hide ((unhide HB1).trans (hB2.mono (unhide HB1).size))
  clear hB2 HB1
  go_wp2_with fail
  refine (unhide HN _).mono ?_
  rintro e w3 ⟨hB3, g3, rfl, hg3⟩
  have HG3 := hide hg3
  have HB3 := hide ((unhide HB2).trans (hB3.mono (unhide HB2).size))
  clear hB3 HB2 hg3
  go_wp2_with fail
  refine (unhide HK _).mono ?_
  rintro e w4 ⟨rfl, hB4⟩
  have hg4 := (hB4.block _ (row_lt (unhide HG3))).trans (unhide HG3)
  obtain ⟨c0, c1, c2, c3, c4⟩ := unhide HC _ _ hg4
  have HB4 := hide ((unhide HB3).trans (hB4.mono (unhide HB3).size))
  have HX : Hid (∀ w5, Below (w4.heap.size + 1) (w4.alloc (.cells #[.string a, .string d, .string s, .int .i64 c, .int .i64 p] 50 (0, 0))) w5 → Below w.heap.size w w5 ∧ w5.cell? ⟨w4.heap.size, 2, none⟩ = some (.string s) ∧ w5.cell? ⟨w4.heap.size, 3, none⟩ = some (.int .i64 c) ∧ w5.cell? ⟨w4.heap.size, 4, none⟩ = some (.int .i64 p)) := fun w5 hb => by
    have hbx := (hb.block w4.heap.size (by omega)).trans (heap_alloc_new _ _)
    refine ⟨((unhide HB4).alloc (unhide HB4).size _).trans (hb.mono (by have := (unhide HB4).size; omega)), ?_, ?_, ?_⟩ <;> exact row_at hbx rfl
  clear hB4 HB3 HG3 hg4
  go_wp2_with fail
  refine (unhide HP _).mono ?_
  rintro e w5 ⟨rfl, hB5⟩
  obtain ⟨hB6, d2, d3, d4⟩ := unhide HX _ (by simpa using hB5)
  have HB6 := hide hB6
  clear hB5 hB6 c0 c1 c2 c3 c4
  go_wp2_with fail
  go_ret
  exact ⟨ret_bool (by first | rfl | simp), unhide HB6⟩

theorem known_any (k : Int) (w : World) (hk : -9223372036854775808 ≤ k ∧ k ≤ 9223372036854775807) : Calls Try.prog 8 #[.int .i64 k] w fun e w' => e = .returned (.bool true) ∧ Below w.heap.size w w' := by
  have b1 : 0 ≤ pickN k 60 := Int.emod_nonneg _ (by decide)
  have b2 : pickN k 60 < 60 := Int.emod_lt_of_pos _ (by decide)
  by_cases q1 : pickN k 60 < 13
  · exact known_lot k (pickN k 60).toNat w hk.1 hk.2 (by omega) (by omega)
  · by_cases q2 : pickN k 60 < 27
    · exact known_pair k (pickN k 60 - 13).toNat w hk.1 hk.2 (by omega) (by omega)
    · exact known_patch k (pickN k 60 - 27).toNat w hk.1 hk.2 (by omega) (by omega)
theorem lit_i64 {n : Int} (h : (Lit.int .i64 n).wf = true) : -9223372036854775808 ≤ n ∧ n ≤ 9223372036854775807 := by
  have h1 : IntKind.i64.min = -9223372036854775808 := rfl
  have h2 : IntKind.i64.max = 9223372036854775807 := rfl
  simp only [Lit.wf, Bool.and_eq_true, decide_eq_true_eq] at h
  omega

end Go.Proofs.Ytdaneedflpfeaaa
