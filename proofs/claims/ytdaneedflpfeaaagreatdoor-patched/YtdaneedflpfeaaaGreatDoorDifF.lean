import Derived.Test.YtdaneedflpfeaaaGreatDoorDifD
import Derived.Test.YtdaneedflpfeaaaGreatDoorOutShow
namespace Go.Proofs.YtdaneedflpfeaaaGreatDoor
set_option maxRecDepth 100000
open Go.RowKit

/-! ## A number's digits, a step's line -/
def digs : ByteArray := ⟨#[48, 49, 50, 51, 52, 53, 54, 55, 56, 57, 97, 98, 99, 100, 101, 102, 103, 104, 105, 106, 107, 108, 109, 110, 111, 112, 113, 114, 115, 116, 117, 118, 119, 120, 121, 122]⟩
theorem digs_at : ∀ i : Fin 10, (digs.data.toList.drop i.val).take 1 = [UInt8.ofNat (48 + i.val)] := by decide +kernel
def twos : ByteArray := ⟨#[48, 48, 48, 49, 48, 50, 48, 51, 48, 52, 48, 53, 48, 54, 48, 55, 48, 56, 48, 57, 49, 48, 49, 49, 49, 50, 49, 51, 49, 52, 49, 53, 49, 54, 49, 55, 49, 56, 49, 57, 50, 48, 50, 49, 50, 50, 50, 51, 50, 52, 50, 53, 50, 54, 50, 55, 50, 56, 50, 57, 51, 48, 51, 49, 51, 50, 51, 51, 51, 52, 51, 53, 51, 54, 51, 55, 51, 56, 51, 57, 52, 48, 52, 49, 52, 50, 52, 51, 52, 52, 52, 53, 52, 54, 52, 55, 52, 56, 52, 57, 53, 48, 53, 49, 53, 50, 53, 51, 53, 52, 53, 53, 53, 54, 53, 55, 53, 56, 53, 57, 54, 48, 54, 49, 54, 50, 54, 51, 54, 52, 54, 53, 54, 54, 54, 55, 54, 56, 54, 57, 55, 48, 55, 49, 55, 50, 55, 51, 55, 52, 55, 53, 55, 54, 55, 55, 55, 56, 55, 57, 56, 48, 56, 49, 56, 50, 56, 51, 56, 52, 56, 53, 56, 54, 56, 55, 56, 56, 56, 57, 57, 48, 57, 49, 57, 50, 57, 51, 57, 52, 57, 53, 57, 54, 57, 55, 57, 56, 57, 57]⟩
theorem twos_at : ∀ i : Fin 100, (twos.data.toList.drop (i.val * 2)).take 2 = [UInt8.ofNat (48 + i.val / 10), UInt8.ofNat (48 + i.val % 10)] := by decide +kernel

set_option maxHeartbeats 1600000 in
theorem small_any (i : Nat) (hi : i < 100) (w : World) : Calls Tryz.prog 131 #[.int .i64 (i : Int)] w fun e w' => e = .returned (.string (mk (Lib.decDigits i))) ∧ w' = w := by
  go_enter Tryz.func131, Tryz.ntmps131
  by_cases h : i < 10
  · go_wp2_with fail
    go_ret
    refine ⟨ret_str ?_, rfl⟩
    rw [ext_mk, Lib.decDigits_one h, ← digs_at ⟨i, h⟩]
    show mk _ = mk _
    congr 1
    simp only [Nat.add_sub_cancel_left]
    rfl
  · go_wp2_with fail
    go_ret
    refine ⟨ret_str ?_, rfl⟩
    rw [ext_mk, Lib.decDigits_two h hi, ← twos_at ⟨i, hi⟩]
    congr 1
    simp only [Nat.add_sub_cancel_left]
    rfl

set_option maxHeartbeats 1600000 in
theorem formatInt_any (i : Nat) (hi : i < 100) (w : World) : Calls Tryz.prog 122 #[.int .i64 (i : Int), .int .i64 10] w fun e w' => e = .returned (.string (mk (Lib.decDigits i))) ∧ w' = w := by
  go_enter Tryz.func122, Tryz.ntmps122
  go_wp2_with fail
  refine (small_any i hi _).mono ?_
  rintro e w1 ⟨rfl, hw⟩; have hw := hw.symm; subst hw
  go_wp2_with fail
  go_ret
  exact ⟨rfl, rfl⟩

set_option maxHeartbeats 1600000 in
theorem itoaI_any (i : Nat) (hi : i < 100) (w : World) : Calls Tryz.prog 110 #[.int .i64 (i : Int)] w fun e w' => e = .returned (.string (mk (Lib.decDigits i))) ∧ w' = w := by
  go_enter Tryz.func110, Tryz.ntmps110
  go_wp2_with fail
  refine (formatInt_any i hi _).mono ?_
  rintro e w1 ⟨rfl, hw⟩; have hw := hw.symm; subst hw
  go_wp2_with fail
  go_ret
  exact ⟨rfl, rfl⟩

set_option maxHeartbeats 1600000 in
theorem itoa_any (i : Nat) (hi : i < 100) (w : World) : Calls Tryz.prog 92 #[.int .i64 (i : Int)] w fun e w' => e = .returned (.string (mk (Lib.decDigits i))) ∧ w' = w := by
  go_enter Tryz.func92, Tryz.ntmps92
  go_wp2_with fail
  refine (itoaI_any i hi _).mono ?_
  rintro e w1 ⟨rfl, hw⟩; have hw := hw.symm; subst hw
  go_wp2_with fail
  go_ret
  exact ⟨rfl, rfl⟩

/-- A step, boxed. -/
def stO (kd : ByteArray) (x y z : Int) (b : Bool) (t : ByteArray) (d : Int) : Obj := .cells #[.string kd, .int .i64 x, .int .i64 y, .int .i64 z, .bool b, .string t, .int .i64 d] 97 (0, 0)

/-- What line reads of its step. -/
abbrev StS (b : Nat) (kd : ByteArray) (x y z : Int) (bb : Bool) (t : ByteArray) (d : Int) (wq : World) : Prop :=
  wq.cell? ⟨b, 0, none⟩ = some (.string kd) ∧ wq.cell? ⟨b, 1, none⟩ = some (.int .i64 x) ∧ wq.cell? ⟨b, 2, none⟩ = some (.int .i64 y) ∧ wq.cell? ⟨b, 3, none⟩ = some (.int .i64 z) ∧
  wq.cell? ⟨b, 4, none⟩ = some (.bool bb) ∧ wq.cell? ⟨b, 5, none⟩ = some (.string t) ∧ wq.cell? ⟨b, 6, none⟩ = some (.int .i64 d)
theorem st_seven {wq : World} {b : Nat} {kd : ByteArray} {x y z : Int} {bb : Bool} {t : ByteArray} {d : Int} (h : wq.heap[b]? = some (stO kd x y z bb t d)) : StS b kd x y z bb t d wq := by
  unfold stO at h
  refine ⟨?_, ?_, ?_, ?_, ?_, ?_, ?_⟩ <;> (rw [cell_of_row wq b _ _ _ (0, 0) h]; rfl)

set_option maxHeartbeats 1600000 in
theorem line_del (k : Nat) (hk : k < 100) (w : World) :
    Calls Tryz.prog 59 #[.agg #[.string ⟨#[100]⟩, .int .i64 (k : Int), .int .i64 0, .int .i64 0, .bool false, .string ⟨#[]⟩, .int .i64 0]] w fun e w' => e = .returned (.string (mk (lineT (.del k) ++ [10]))) ∧ Below w.heap.size w w' := by
  have HE : Hid ((⟨#[100]⟩ : ByteArray) ++ ⟨#[32]⟩ ++ mk (Lib.decDigits k) ++ ⟨#[10]⟩ = mk (lineT (.del k) ++ [10])) := by
    show mk [100] ++ mk [32] ++ mk (Lib.decDigits k) ++ mk [10] = _
    rw [mk_append, mk_append, mk_append]; rfl
  have HL : (mk (Lib.decDigits k)).size ≤ 2 := by rw [mk_size]; exact (dec_read hk).2.2
  have HI := hide (fun w1 => itoa_any k hk w1)
  have HS0 := hide (st_seven (heap_alloc_new w (stO ⟨#[100]⟩ (k : Int) 0 0 false ⟨#[]⟩ 0)))
  clear hk
  unfold stO at *
  generalize mk (Lib.decDigits k) = dk at *
  generalize mk (lineT (.del k) ++ [10]) = R at *
  have hA : ∀ wx, (Op.stringOp .add (⟨#[100, 32]⟩ : ByteArray) dk).run Tryz.prog wx = .ok (.string ((⟨#[100, 32]⟩ : ByteArray) ++ dk)) wx := fun wx => run_string_add_sum wx _ _ (by show 2 + dk.size ≤ _; omega)
  have hA2 : ∀ wx, (Op.stringOp .add ((⟨#[100]⟩ : ByteArray) ++ ⟨#[32]⟩) dk).run Tryz.prog wx = .ok (.string ((⟨#[100]⟩ : ByteArray) ++ ⟨#[32]⟩ ++ dk)) wx := fun wx => run_string_add_sum wx _ _ (by show 2 + dk.size ≤ _; omega)
  go_enter Tryz.func59, Tryz.ntmps59
  go_wp2_with fail
  go_region_held3 (StS w.heap.size ⟨#[100]⟩ (k : Int) 0 0 false ⟨#[]⟩ 0) (exact unhide HS0) (first | (go_at_call 92; refine (unhide HI _).mono ?_; rintro e w1 ⟨rfl, hw⟩; have hw := hw.symm; subst hw))
  all_goals (obtain ⟨c0, c1, c2, c3, c4, c5, c6⟩ := unhide HS0)
  all_goals go_wp2_with fail
  all_goals go_ret
  all_goals exact ⟨ret_str (unhide HE), by first | exact (Below.refl _ _).alloc (Nat.le_refl _) _ | exact ((Below.refl _ _).alloc (Nat.le_refl _) _).trans (below_drewN' _ _ _)⟩

theorem line_key (w : World) (o : Obj) {b : Nat} {kd : ByteArray} {x y z : Int} {bb : Bool} {t : ByteArray} {d : Int} (hb : b = w.heap.size) (ho : o = stO kd x y z bb t d) (wx w5 : World) (hB : Below wx.heap.size wx w5) (h0 : wx.heap = (w.alloc o).heap) (h1 : wx.os = w.os) (h2 : wx.tape = w.tape) (h3 : wx.output = w.output) : Below w.heap.size w w5 ∧ StS b kd x y z bb t d w5 := by
  subst hb ho
  have hs : wx.heap.size = w.heap.size + 1 := by rw [h0]; simp
  constructor
  · refine ⟨hB.os.trans h1, hB.tape.trans h2, hB.output.trans h3, by have := hB.size; omega, fun k hk => ?_⟩
    rw [hB.block k (by omega), h0]
    exact heap_alloc_old _ _ hk
  · refine st_seven ?_
    rw [hB.block w.heap.size (by omega), h0]
    exact heap_alloc_new _ _

set_option maxHeartbeats 3200000 in
theorem line_ren (k : Nat) (b : Bool) (t : ByteArray) (d : Int) (hk : k < 100) (ht : t.size ≤ 1000000) (w : World) :
    Calls Tryz.prog 59 #[.agg #[.string ⟨#[114]⟩, .int .i64 (k : Int), .int .i64 0, .int .i64 0, .bool b, .string t, .int .i64 d]] w fun e w' => e = .returned (.string (mk (lineT (.ren k b t) ++ [10]))) ∧ Below w.heap.size w w' := by
  have HE : Hid ((⟨#[114]⟩ : ByteArray) ++ ⟨#[32]⟩ ++ mk (Lib.decDigits k) ++ (⟨#[32]⟩ ++ mk (labelL ⟨b, t, d⟩)) ++ ⟨#[10]⟩ = mk (lineT (.ren k b t) ++ [10])) := by
    show mk [114] ++ mk [32] ++ mk (Lib.decDigits k) ++ (mk [32] ++ mk (labelL ⟨b, t, d⟩)) ++ mk [10] = _
    rw [mk_append, mk_append, mk_append, mk_append, mk_append]
    have e : labelL ⟨b, t, d⟩ = labelL ⟨b, t, 0⟩ := rfl
    simp [lineT, e]
  have HL : (mk (Lib.decDigits k)).size ≤ 2 := by rw [mk_size]; exact (dec_read hk).2.2
  have HLb : (mk (labelL ⟨b, t, d⟩)).size ≤ 5000000 := by rw [mk_size]; have := labelL_len ⟨b, t, d⟩ ht; omega
  have HI := hide (fun w1 => itoa_any k hk w1)
  have HLA := hide (fun w1 => label_any ⟨b, t, d⟩ w1 ht)
  have HS0 := hide (st_seven (heap_alloc_new w (stO ⟨#[114]⟩ (k : Int) 0 0 b t d)))
  have HK := hide (fun wx w5 => line_key w (stO ⟨#[114]⟩ (k : Int) 0 0 b t d) rfl rfl wx w5)
  clear hk ht
  unfold stO at *
  generalize mk (Lib.decDigits k) = dk at *
  generalize mk (labelL ⟨b, t, d⟩) = lb at *
  generalize mk (lineT (.ren k b t) ++ [10]) = R at *
  have a1 : ∀ wx, (Op.stringOp .add (⟨#[114, 32]⟩ : ByteArray) dk).run Tryz.prog wx = .ok (.string ((⟨#[114, 32]⟩ : ByteArray) ++ dk)) wx := fun wx => run_string_add_sum wx _ _ (by show 2 + dk.size ≤ _; omega)
  have a2 : ∀ wx, (Op.stringOp .add ((⟨#[114]⟩ : ByteArray) ++ ⟨#[32]⟩) dk).run Tryz.prog wx = .ok (.string ((⟨#[114]⟩ : ByteArray) ++ ⟨#[32]⟩ ++ dk)) wx := fun wx => run_string_add_sum wx _ _ (by show 2 + dk.size ≤ _; omega)
  have a3 : ∀ wx, (Op.stringOp .add (⟨#[32]⟩ : ByteArray) lb).run Tryz.prog wx = .ok (.string ((⟨#[32]⟩ : ByteArray) ++ lb)) wx := fun wx => run_string_add_sum wx _ _ (by show 1 + lb.size ≤ _; omega)
  have z1 : ((⟨#[114]⟩ : ByteArray) ++ ⟨#[32]⟩ ++ dk).size = 2 + dk.size := by rw [ByteArray.size_append]; rfl
  have z2 : ((⟨#[32]⟩ : ByteArray) ++ lb).size = 1 + lb.size := by rw [ByteArray.size_append]; rfl
  have a4 : ∀ wx, (Op.stringOp .add ((⟨#[114]⟩ : ByteArray) ++ ⟨#[32]⟩ ++ dk) (⟨#[32]⟩ ++ lb)).run Tryz.prog wx = .ok (.string ((⟨#[114]⟩ : ByteArray) ++ ⟨#[32]⟩ ++ dk ++ (⟨#[32]⟩ ++ lb))) wx := fun wx => run_string_add_sum wx _ _ (by omega)
  have a5 : ∀ wx, (Op.stringOp .add ((⟨#[114, 32]⟩ : ByteArray) ++ dk) (⟨#[32]⟩ ++ lb)).run Tryz.prog wx = .ok (.string ((⟨#[114, 32]⟩ : ByteArray) ++ dk ++ (⟨#[32]⟩ ++ lb))) wx := fun wx => run_string_add_sum wx _ _ (by rw [ByteArray.size_append, z2]; show 2 + dk.size + _ ≤ _; omega)
  clear z1 z2
  go_enter Tryz.func59, Tryz.ntmps59
  go_wp2_with fail
  go_region_held3 (StS w.heap.size ⟨#[114]⟩ (k : Int) 0 0 b t d) (exact unhide HS0) (first | (go_at_call 92; refine (unhide HI _).mono ?_; rintro e w1 ⟨rfl, hw⟩; have hw := hw.symm; subst hw))
  all_goals (obtain ⟨c0, c1, c2, c3, c4, c5, c6⟩ := unhide HS0)
  all_goals go_wp2_with fail
  all_goals (refine (unhide HLA _).mono ?_)
  all_goals (rintro e w5 ⟨rfl, hB5⟩)
  all_goals (have HB5 := hide (unhide HK _ _ hB5 rfl rfl rfl rfl).1; have HS5 := hide (unhide HK _ _ hB5 rfl rfl rfl rfl).2; clear hB5)
  all_goals go_wp2_with fail
  all_goals go_ret
  all_goals exact ⟨ret_str (unhide HE), unhide HB5⟩

set_option maxHeartbeats 3200000 in
theorem line_ins (k i n : Nat) (b : Bool) (t : ByteArray) (d : Int) (hk : k < 100) (hi : i < 100) (hn : n < 100) (ht : t.size ≤ 1000000) (w : World) :
    Calls Tryz.prog 59 #[.agg #[.string ⟨#[105]⟩,   .int .i64 (k : Int), .int .i64 (i : Int), .int .i64 (n : Int), .bool b, .string t, .int .i64 d]] w fun e w' => e = .returned (.string (mk (lineT (.ins k i n b t) ++ [10]))) ∧ Below w.heap.size w w' := by
  have HE : Hid ((⟨#[105]⟩ : ByteArray) ++ ⟨#[32]⟩ ++ mk (Lib.decDigits k) ++ (⟨#[32]⟩ ++ mk (Lib.decDigits i)) ++ (⟨#[32]⟩ ++ mk (Lib.decDigits n)) ++ (⟨#[32]⟩ ++ mk (labelL ⟨b, t, d⟩)) ++ ⟨#[10]⟩ = mk (lineT (.ins k i n b t) ++ [10])) := by
    show mk [105] ++ mk [32] ++ mk (Lib.decDigits k) ++ (mk [32] ++ mk (Lib.decDigits i)) ++ (mk [32] ++ mk (Lib.decDigits n)) ++ (mk [32] ++ mk (labelL ⟨b, t, d⟩)) ++ mk [10] = _
    rw [mk_append, mk_append, mk_append, mk_append, mk_append, mk_append, mk_append, mk_append, mk_append]
    have e : labelL ⟨b, t, d⟩ = labelL ⟨b, t, 0⟩ := rfl
    simp [lineT, e]
  have HL : (mk (Lib.decDigits k)).size ≤ 2 := by rw [mk_size]; exact (dec_read hk).2.2
  have HLi : (mk (Lib.decDigits i)).size ≤ 2 := by rw [mk_size]; exact (dec_read hi).2.2
  have HLn : (mk (Lib.decDigits n)).size ≤ 2 := by rw [mk_size]; exact (dec_read hn).2.2
  have HLb : (mk (labelL ⟨b, t, d⟩)).size ≤ 5000000 := by rw [mk_size]; have := labelL_len ⟨b, t, d⟩ ht; omega
  have HI := hide (fun w1 => itoa_any k hk w1)
  have HJ := hide (fun w1 => itoa_any i hi w1)
  have HM := hide (fun w1 => itoa_any n hn w1)
  have HLA := hide (fun w1 => label_any ⟨b, t, d⟩ w1 ht)
  have HS0 := hide (st_seven (heap_alloc_new w (stO ⟨#[105]⟩ (k : Int) (i : Int) (n : Int) b t d)))
  have HK := hide (fun wx w5 => line_key w (stO ⟨#[105]⟩ (k : Int) (i : Int) (n : Int) b t d) rfl rfl wx w5)
  clear hk ht hi hn
  unfold stO at *
  generalize mk (Lib.decDigits k) = dk at *
  generalize mk (Lib.decDigits i) = di at *
  generalize mk (Lib.decDigits n) = dn at *
  generalize mk (labelL ⟨b, t, d⟩) = lb at *
  generalize mk (lineT (.ins k i n b t) ++ [10]) = R at *
  have a1 : ∀ wx, (Op.stringOp .add (⟨#[105, 32]⟩ : ByteArray) dk).run Tryz.prog wx = .ok (.string ((⟨#[105, 32]⟩ : ByteArray) ++ dk)) wx := fun wx => run_string_add_sum wx _ _ (by show 2 + dk.size ≤ _; omega)
  have a2 : ∀ wx, (Op.stringOp .add ((⟨#[105]⟩ : ByteArray) ++ ⟨#[32]⟩) dk).run Tryz.prog wx = .ok (.string ((⟨#[105]⟩ : ByteArray) ++ ⟨#[32]⟩ ++ dk)) wx := fun wx => run_string_add_sum wx _ _ (by show 2 + dk.size ≤ _; omega)
  have a3 : ∀ wx, (Op.stringOp .add (⟨#[32]⟩ : ByteArray) lb).run Tryz.prog wx = .ok (.string ((⟨#[32]⟩ : ByteArray) ++ lb)) wx := fun wx => run_string_add_sum wx _ _ (by show 1 + lb.size ≤ _; omega)
  have a3i : ∀ wx, (Op.stringOp .add (⟨#[32]⟩ : ByteArray) di).run Tryz.prog wx = .ok (.string ((⟨#[32]⟩ : ByteArray) ++ di)) wx := fun wx => run_string_add_sum wx _ _ (by show 1 + di.size ≤ _; omega)
  have a3n : ∀ wx, (Op.stringOp .add (⟨#[32]⟩ : ByteArray) dn).run Tryz.prog wx = .ok (.string ((⟨#[32]⟩ : ByteArray) ++ dn)) wx := fun wx => run_string_add_sum wx _ _ (by show 1 + dn.size ≤ _; omega)
  have z1 : ((⟨#[105]⟩ : ByteArray) ++ ⟨#[32]⟩ ++ dk).size = 2 + dk.size := by rw [ByteArray.size_append]; rfl
  have z2 : ∀ x : ByteArray, ((⟨#[32]⟩ : ByteArray) ++ x).size = 1 + x.size := fun x => by rw [ByteArray.size_append]; rfl
  have a4 : ∀ wx, (Op.stringOp .add ((⟨#[105]⟩ : ByteArray) ++ ⟨#[32]⟩ ++ dk) (⟨#[32]⟩ ++ di)).run Tryz.prog wx = .ok (.string ((⟨#[105]⟩ : ByteArray) ++ ⟨#[32]⟩ ++ dk ++ (⟨#[32]⟩ ++ di))) wx := fun wx => run_string_add_sum wx _ _ (by rw [z1, z2]; omega)
  have a5 : ∀ wx, (Op.stringOp .add ((⟨#[105]⟩ : ByteArray) ++ ⟨#[32]⟩ ++ dk ++ (⟨#[32]⟩ ++ di)) (⟨#[32]⟩ ++ dn)).run Tryz.prog wx = .ok (.string ((⟨#[105]⟩ : ByteArray) ++ ⟨#[32]⟩ ++ dk ++ (⟨#[32]⟩ ++ di) ++ (⟨#[32]⟩ ++ dn))) wx := fun wx => run_string_add_sum wx _ _ (by rw [ByteArray.size_append, z1, z2, z2]; omega)
  have a6 : ∀ wx, (Op.stringOp .add ((⟨#[105]⟩ : ByteArray) ++ ⟨#[32]⟩ ++ dk ++ (⟨#[32]⟩ ++ di) ++ (⟨#[32]⟩ ++ dn)) (⟨#[32]⟩ ++ lb)).run Tryz.prog wx = .ok (.string ((⟨#[105]⟩ : ByteArray) ++ ⟨#[32]⟩ ++ dk ++ (⟨#[32]⟩ ++ di) ++ (⟨#[32]⟩ ++ dn) ++ (⟨#[32]⟩ ++ lb))) wx := fun wx => run_string_add_sum wx _ _ (by rw [ByteArray.size_append, ByteArray.size_append, z1, z2, z2, z2]; omega)
  clear z1 z2
  go_enter Tryz.func59, Tryz.ntmps59
  go_wp2_with fail
  go_region_held3 (StS w.heap.size ⟨#[105]⟩ (k : Int) (i : Int) (n : Int) b t d) (exact unhide HS0) (first | (go_at_call 92; refine (unhide HI _).mono ?_; rintro e w1 ⟨rfl, hw⟩; have hw := hw.symm; subst hw))
  all_goals (obtain ⟨c0, c1, c2, c3, c4, c5, c6⟩ := unhide HS0)
  all_goals go_wp2_with fail
  all_goals (refine (unhide HJ _).mono ?_)
  all_goals rintro e w1 ⟨rfl, hw⟩; have hw := hw.symm; subst hw
  all_goals go_wp2_with fail
  all_goals (refine (unhide HM _).mono ?_)
  all_goals rintro e w1 ⟨rfl, hw⟩; have hw := hw.symm; subst hw
  all_goals go_wp2_with fail
  all_goals (refine (unhide HLA _).mono ?_)
  all_goals (rintro e w5 ⟨rfl, hB5⟩)
  all_goals (have HB5 := hide (unhide HK _ _ hB5 rfl rfl rfl rfl).1; have HS5 := hide (unhide HK _ _ hB5 rfl rfl rfl rfl).2; clear hB5)
  all_goals go_wp2_with fail
  all_goals go_ret
  all_goals exact ⟨ret_str (unhide HE), unhide HB5⟩

end Go.Proofs.YtdaneedflpfeaaaGreatDoor
