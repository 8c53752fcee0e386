import Derived.Test.YtdaneedflpfeaabGreatDoorRfB
namespace Go.Proofs.YtdaneedflpfeaabGreatDoor
set_option maxRecDepth 100000
open Go.RowKit

set_option maxHeartbeats 6400000 in
theorem refuses_err (k : Int) (j : Nat) (s : ByteArray) (c p : Int) (hc : c ≠ 0) (w : World) (h1 : -9223372036854775808 ≤ k) (h2 : k ≤ 9223372036854775807) (hj : j < 57) (hk : pickN k 57 = (j : Int))
    (hcell : ∀ (wq : World) (g : Nat), wq.heap[g]? = some (.cells fltC 26 (0, 0)) → wq.cell? ⟨g, j * 3, none⟩ = some (.string s) ∧ wq.cell? ⟨g, j * 3 + 1, none⟩ = some (.int .i64 c) ∧ wq.cell? ⟨g, j * 3 + 2, none⟩ = some (.int .i64 p))
    (hS : ∀ wx, Calls Tryz.prog 6 #[.string s] wx fun e w' => e = .returned (.tuple #[.string ⟨#[]⟩, .int .i64 c, .int .i64 p]) ∧ Below wx.heap.size wx w')
    (hD : ∀ wx, Calls Tryz.prog 7 #[.string s, .string ⟨#[]⟩] wx fun e w' => e = .returned (.tuple #[.int .i64 0, .int .i64 c]) ∧ Below wx.heap.size wx w')
    (hE : ∀ wx, Calls Tryz.prog 7 #[.string ⟨#[]⟩, .string s] wx fun e w' => e = .returned (.tuple #[.int .i64 0, .int .i64 c]) ∧ Below wx.heap.size wx w')
    (hF : ∀ wx, Calls Tryz.prog 8 #[.string ⟨#[120]⟩, .string s] wx fun e w' => e = .returned (.tuple #[.string ⟨#[]⟩, .int .i64 2]) ∧ Below wx.heap.size wx w')
    (hP : ∀ wx, Calls Tryz.prog 9 #[.string s, .string ⟨#[]⟩] wx fun e w' => e = .returned (.tuple #[.string ⟨#[]⟩, .int .i64 c, .int .i64 0]) ∧ Below wx.heap.size wx w') :
    Calls Tryz.prog 3 #[.int .i64 k] w fun e w' => e = .returned (.bool true) ∧ Below w.heap.size w w' := by
  have HT := hide (fun wx => faults_any wx)
  have HK : Hid (∀ wx, Calls Tryz.prog 5 #[.int .i64 k, .int .i64 57] wx fun e w' => e = .returned (.int .i64 (j : Int)) ∧ Below wx.heap.size wx w') := fun wx => by
    have := pick_any k 57 wx h1 h2 (by decide) (by decide); rw [hk] at this; exact this
  have HC := hide hcell
  have HS := hide hS
  have HD := hide hD
  have HE := hide hE
  have HF := hide hF
  have HP := hide hP
  clear hcell hS hD hE hF hP hk h1 h2
  have hc1 : (c != 0) = true := bne_iff_ne.2 hc
  have hc2 : (c == 0) = false := by simp [hc]
  clear hc
  have n1 : (0 : Int) ≤ (j : Int) := by omega
  have n2 : (j : Int) < 57 := by omega
  go_enter Tryz.func3, Tryz.ntmps3
  go_wp2_with fail
  refine (unhide HT _).mono ?_
  rintro e w1 ⟨hB1, g1, rfl, hg1⟩
  have HB1 := hide hB1
  have HG1 := hide hg1
  clear hB1 hg1
  go_wp2_with fail
  refine (unhide HK _).mono ?_
  rintro e w2 ⟨rfl, hB2⟩
  obtain ⟨c0, c1, c2⟩ := unhide HC _ _ ((hB2.block _ (row_lt (unhide HG1))).trans (unhide HG1))
  have HB2 := hide ((unhide HB1).trans (hB2.mono (unhide HB1).size))
  have HX : Hid (∀ wq, Below (w2.heap.size + 1) (w2.alloc (.cells #[.string s, .int .i64 c, .int .i64 p] 26 (0, 0))) wq → Below w.heap.size w wq ∧ wq.cell? ⟨w2.heap.size, 0, none⟩ = some (.string s) ∧ wq.cell? ⟨w2.heap.size, 1, none⟩ = some (.int .i64 c) ∧ wq.cell? ⟨w2.heap.size, 2, none⟩ = some (.int .i64 p)) := fun wq hb => by
    have hbx := (hb.block w2.heap.size (by omega)).trans (heap_alloc_new _ _)
    refine ⟨((unhide HB2).alloc (unhide HB2).size _).trans (hb.mono (by have := (unhide HB2).size; omega)), ?_, ?_, ?_⟩ <;> exact row_at hbx rfl
  have HSZ : Hid ((w2.alloc (.cells #[.string s, .int .i64 c, .int .i64 p] 26 (0, 0))).heap.size = w2.heap.size + 1) := by show _ = _; simp
  clear hB2 HB1 HG1
  go_wp2_with fail
  refine (unhide HS _).mono ?_
  rintro e w3 ⟨rfl, hB3⟩
  rw [unhide HSZ] at hB3
  have HY3 := hide hB3
  obtain ⟨_, d0, d1, d2⟩ := unhide HX _ (unhide HY3)
  clear hB3 c0 c1 c2
  go_wp2_with fail
  refine (unhide HD _).mono ?_
  rintro e w4 ⟨rfl, hB4⟩
  have HY4 := hide ((unhide HY3).trans (hB4.mono (by have := (unhide HY3).size; have := unhide HSZ; omega)))
  clear hB4 d0 d1 d2
  obtain ⟨_, d0, d1, d2⟩ := unhide HX _ (unhide HY4)
  go_wp2_with fail
  refine (unhide HE _).mono ?_
  rintro e w5 ⟨rfl, hB5⟩
  have HY5 := hide ((unhide HY4).trans (hB5.mono (by have := (unhide HY4).size; have := unhide HSZ; omega)))
  clear hB5 d0 d1 d2
  obtain ⟨_, d0, d1, d2⟩ := unhide HX _ (unhide HY5)
  go_wp2_with fail
  refine (unhide HF _).mono ?_
  rintro e w6 ⟨rfl, hB6⟩
  have HY6 := hide ((unhide HY5).trans (hB6.mono (by have := (unhide HY5).size; have := unhide HSZ; omega)))
  clear hB6 d0 d1 d2
  obtain ⟨_, d0, d1, d2⟩ := unhide HX _ (unhide HY6)
  go_wp2_with fail
  refine (unhide HP _).mono ?_
  rintro e w7 ⟨rfl, hB7⟩
  have HY7 := hide ((unhide HY6).trans (hB7.mono (by have := (unhide HY6).size; have := unhide HSZ; omega)))
  clear hB7 d0 d1 d2
  obtain ⟨hB, d0, d1, d2⟩ := unhide HX _ (unhide HY7)
  have HB := hide hB
  clear hB
  go_wp2_with fail
  go_ret
  exact ⟨ret_bool (by first | rfl | simp), unhide HB⟩

set_option maxHeartbeats 6400000 in
theorem refuses_ok (k : Int) (j : Nat) (s : ByteArray) (t : ByteArray) (x : Int) (ht : 0 < t.size) (w : World) (h1 : -9223372036854775808 ≤ k) (h2 : k ≤ 9223372036854775807) (hj : j < 57) (hk : pickN k 57 = (j : Int))
    (hcell : ∀ (wq : World) (g : Nat), wq.heap[g]? = some (.cells fltC 26 (0, 0)) → wq.cell? ⟨g, j * 3, none⟩ = some (.string s) ∧ wq.cell? ⟨g, j * 3 + 1, none⟩ = some (.int .i64 0) ∧ wq.cell? ⟨g, j * 3 + 2, none⟩ = some (.int .i64 0))
    (hS : ∀ wx, Calls Tryz.prog 6 #[.string s] wx fun e w' => e = .returned (.tuple #[.string t, .int .i64 0, .int .i64 0]) ∧ Below wx.heap.size wx w')
    (hD : ∀ wx, Calls Tryz.prog 7 #[.string s, .string ⟨#[]⟩] wx fun e w' => e = .returned (.tuple #[.int .i64 x, .int .i64 0]) ∧ Below wx.heap.size wx w')
    (hE : ∀ wx, Calls Tryz.prog 7 #[.string ⟨#[]⟩, .string s] wx fun e w' => e = .returned (.tuple #[.int .i64 x, .int .i64 0]) ∧ Below wx.heap.size wx w')
    (hF : ∀ wx, Calls Tryz.prog 8 #[.string ⟨#[120]⟩, .string s] wx fun e w' => e = .returned (.tuple #[.string ⟨#[]⟩, .int .i64 2]) ∧ Below wx.heap.size wx w')
    (hP : ∀ wx, Calls Tryz.prog 9 #[.string s, .string ⟨#[]⟩] wx fun e w' => e = .returned (.tuple #[.string s, .int .i64 0, .int .i64 0]) ∧ Below wx.heap.size wx w') :
    Calls Tryz.prog 3 #[.int .i64 k] w fun e w' => e = .returned (.bool true) ∧ Below w.heap.size w w' := by
  have HT := hide (fun wx => faults_any wx)
  have HK : Hid (∀ wx, Calls Tryz.prog 5 #[.int .i64 k, .int .i64 57] wx fun e w' => e = .returned (.int .i64 (j : Int)) ∧ Below wx.heap.size wx w') := fun wx => by
    have := pick_any k 57 wx h1 h2 (by decide) (by decide); rw [hk] at this; exact this
  have HC := hide hcell
  have HS := hide hS
  have HD := hide hD
  have HE := hide hE
  have HF := hide hF
  have HP := hide hP
  clear hcell hS hD hE hF hP hk h1 h2
  have ht1 : (t.toList == []) = false := toList_ne ht
  have hs1 : (s.toList == s.toList) = true := beq_self_eq_true _
  clear ht
  have n1 : (0 : Int) ≤ (j : Int) := by omega
  have n2 : (j : Int) < 57 := by omega
  go_enter Tryz.func3, Tryz.ntmps3
  go_wp2_with fail
  refine (unhide HT _).mono ?_
  rintro e w1 ⟨hB1, g1, rfl, hg1⟩
  have HB1 := hide hB1
  have HG1 := hide hg1
  clear hB1 hg1
  go_wp2_with fail
  refine (unhide HK _).mono ?_
  rintro e w2 ⟨rfl, hB2⟩
  obtain ⟨c0, c1, c2⟩ := unhide HC _ _ ((hB2.block _ (row_lt (unhide HG1))).trans (unhide HG1))
  have HB2 := hide ((unhide HB1).trans (hB2.mono (unhide HB1).size))
  have HX : Hid (∀ wq, Below (w2.heap.size + 1) (w2.alloc (.cells #[.string s, .int .i64 0, .int .i64 0] 26 (0, 0))) wq → Below w.heap.size w wq ∧ wq.cell? ⟨w2.heap.size, 0, none⟩ = some (.string s) ∧ wq.cell? ⟨w2.heap.size, 1, none⟩ = some (.int .i64 0) ∧ wq.cell? ⟨w2.heap.size, 2, none⟩ = some (.int .i64 0)) := fun wq hb => by
    have hbx := (hb.block w2.heap.size (by omega)).trans (heap_alloc_new _ _)
    refine ⟨((unhide HB2).alloc (unhide HB2).size _).trans (hb.mono (by have := (unhide HB2).size; omega)), ?_, ?_, ?_⟩ <;> exact row_at hbx rfl
  have HSZ : Hid ((w2.alloc (.cells #[.string s, .int .i64 0, .int .i64 0] 26 (0, 0))).heap.size = w2.heap.size + 1) := by show _ = _; simp
  clear hB2 HB1 HG1
  go_wp2_with fail
  refine (unhide HS _).mono ?_
  rintro e w3 ⟨rfl, hB3⟩
  rw [unhide HSZ] at hB3
  have HY3 := hide hB3
  obtain ⟨_, d0, d1, d2⟩ := unhide HX _ (unhide HY3)
  clear hB3 c0 c1 c2
  go_wp2_with fail
  refine (unhide HD _).mono ?_
  rintro e w4 ⟨rfl, hB4⟩
  have HY4 := hide ((unhide HY3).trans (hB4.mono (by have := (unhide HY3).size; have := unhide HSZ; omega)))
  clear hB4 d0 d1 d2
  obtain ⟨_, d0, d1, d2⟩ := unhide HX _ (unhide HY4)
  go_wp2_with fail
  refine (unhide HE _).mono ?_
  rintro e w5 ⟨rfl, hB5⟩
  have HY5 := hide ((unhide HY4).trans (hB5.mono (by have := (unhide HY4).size; have := unhide HSZ; omega)))
  clear hB5 d0 d1 d2
  obtain ⟨_, d0, d1, d2⟩ := unhide HX _ (unhide HY5)
  go_wp2_with fail
  refine (unhide HF _).mono ?_
  rintro e w6 ⟨rfl, hB6⟩
  have HY6 := hide ((unhide HY5).trans (hB6.mono (by have := (unhide HY5).size; have := unhide HSZ; omega)))
  clear hB6 d0 d1 d2
  obtain ⟨_, d0, d1, d2⟩ := unhide HX _ (unhide HY6)
  go_wp2_with fail
  refine (unhide HP _).mono ?_
  rintro e w7 ⟨rfl, hB7⟩
  have HY7 := hide ((unhide HY6).trans (hB7.mono (by have := (unhide HY6).size; have := unhide HSZ; omega)))
  clear hB7 d0 d1 d2
  obtain ⟨hB, d0, d1, d2⟩ := unhide HX _ (unhide HY7)
  have HB := hide hB
  clear hB
  go_wp2_with fail
  go_ret
  exact ⟨ret_bool (by first | rfl | simp), unhide HB⟩

theorem x_out : outT ⟨#[120]⟩ = .err 2 0 := by rw [outT_F]; kernel_rfl
theorem nil_out : ∃ E, outT ⟨#[]⟩ = .ok E := by
  have h : isOk (outT ⟨#[]⟩) = true := by rw [outT_F]; kernel_rfl
  cases ho : outT ⟨#[]⟩ with
  | err c p => rw [ho] at h; cases h
  | ok E => exact ⟨E, rfl⟩
theorem refuses_any (k : Int) (w : World) (hk : -9223372036854775808 ≤ k ∧ k ≤ 9223372036854775807) : Calls Tryz.prog 3 #[.int .i64 k] w fun e w' => e = .returned (.bool true) ∧ Below w.heap.size w w' := by
  have b1 : 0 ≤ pickN k 57 := Int.emod_nonneg _ (by decide)
  have b2 : pickN k 57 < 57 := Int.emod_lt_of_pos _ (by decide)
  obtain ⟨j, hj⟩ : ∃ j : Nat, pickN k 57 = (j : Int) := ⟨(pickN k 57).toNat, by omega⟩
  have hj57 : j < 57 := by omega
  have hcell : ∀ (wq : World) (g : Nat), wq.heap[g]? = some (.cells fltC 26 (0, 0)) → wq.cell? ⟨g, j * 3, none⟩ = some (.string (fltS j)) ∧ wq.cell? ⟨g, j * 3 + 1, none⟩ = some (.int .i64 (fltE j)) ∧ wq.cell? ⟨g, j * 3 + 2, none⟩ = some (.int .i64 (fltP j)) := fun wq g h => by
    obtain ⟨a0, a1, a2⟩ := flt_cells j hj57
    exact ⟨row_at h a0, row_at h a1, row_at h a2⟩
  have hb : bothC ⟨#[120]⟩ (fltS j) = 2 := by unfold bothC; rw [x_out]
  have hF : ∀ wx, Calls Tryz.prog 8 #[.string ⟨#[120]⟩, .string (fltS j)] wx fun e w' => e = .returned (.tuple #[.string ⟨#[]⟩, .int .i64 2]) ∧ Below wx.heap.size wx w' := fun wx => by
    have := diff_err ⟨#[120]⟩ (fltS j) wx (by rw [hb]; decide)
    rw [hb] at this
    exact this
  obtain ⟨E, hE⟩ := nil_out
  rcases flt_all j hj57 with ⟨hc, ho⟩ | ⟨hc, hp, L, ho, hw, hpt⟩
  · refine refuses_err k j (fltS j) (fltE j) (fltP j) hc w hk.1 hk.2 hj57 hj hcell (fun wx => ?_) (fun wx => ?_) (fun wx => ?_) hF (fun wx => ?_)
    · have := show_any (fltS j) wx
      unfold showT at this
      rw [ho] at this
      exact this
    · have := dist_any (fltS j) ⟨#[]⟩ wx
      unfold distT at this
      rw [ho] at this
      exact this
    · have := dist_any ⟨#[]⟩ (fltS j) wx
      unfold distT at this
      rw [hE, ho] at this
      exact this
    · refine (patch_any (fltS j) ⟨#[]⟩ wx).mono fun e w' ⟨hB, s, c, p, he, hpo⟩ => ?_
      cases hpo with
      | err c p h => rw [ho] at h; cases h; exact ⟨he, hB⟩
      | long n h hd => rw [ho] at h; cases h
      | bad n k h hd hr => rw [ho] at h; cases h
      | none n K h hd hr ht => rw [ho] at h; cases h
      | ok n K h hd hr ht => rw [ho] at h; cases h
  · rw [hc, hp] at hcell
    refine refuses_ok k j (fltS j) (mk (writtenL L)) (dB L E 0 0) ?_ w hk.1 hk.2 hj57 hj hcell (fun wx => ?_) (fun wx => ?_) (fun wx => ?_) hF (fun wx => ?_)
    · rw [mk_size]; exact List.length_pos_iff.2 hw
    · have := show_any (fltS j) wx
      unfold showT at this
      rw [ho] at this
      exact this
    · have := dist_any (fltS j) ⟨#[]⟩ wx
      unfold distT at this
      rw [ho, hE] at this
      exact this
    · have := dist_any ⟨#[]⟩ (fltS j) wx
      unfold distT at this
      rw [hE, ho] at this
      simp only at this
      rw [dB_symm E L] at this
      exact this
    · refine (patch_any (fltS j) ⟨#[]⟩ wx).mono fun e w' ⟨hB, s, c, p, he, hpo⟩ => ?_
      obtain ⟨rfl, rfl, rfl⟩ := hpt _ _ _ hpo
      exact ⟨he, hB⟩
theorem lit_i64 {n : Int} (h : (Lit.int .i64 n).wf = true) : -9223372036854775808 ≤ n ∧ n ≤ 9223372036854775807 := by
  have h1 : IntKind.i64.min = -9223372036854775808 := rfl
  have h2 : IntKind.i64.max = 9223372036854775807 := rfl
  simp only [Lit.wf, Bool.and_eq_true, decide_eq_true_eq] at h
  omega


end Go.Proofs.YtdaneedflpfeaabGreatDoor
