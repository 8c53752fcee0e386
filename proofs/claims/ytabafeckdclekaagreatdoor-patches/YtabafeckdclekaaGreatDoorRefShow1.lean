import Derived.Test.YtabafeckdclekaaGreatDoorStr
import Derived.Test.YtabafeckdclekaaGreatDoorRefNode
namespace Go.Proofs.YtabafeckdclekaaGreatDoor
set_option maxRecDepth 100000
open Go.RowKit

theorem conv_block (w : World) (B cap : Nat) (l : List UInt8) (h : w.heap[B]? = some (.cells (u8s l).toArray 5 (0, 0))) : (convert 93 9 (.slice (some ⟨B, 0, none⟩) l.length cap)).run Tryz.prog w = .ok (.string (mk l)) w := by
  refine run_convert_bytes_back (l := l) w 93 9 5 ⟨B, 0, none⟩ cap Tryz.underlying93 Tryz.underlying5 Tryz.underlying9 (fun j hj => ?_)
  exact news_of h j _ (by simp [u8s, hj])

set_option maxHeartbeats 1600000 in
set_option maxRecDepth 100000 in
theorem refWritten_92 (w : World) :
    Calls Tryz.prog 52 #[.int .u8 92] w fun e w' => e = .returned (.string (mk (escB 92))) ∧ Below w.heap.size w w' := by
  have hcv : (convert 93 9 (.slice (some ⟨w.heap.size, 0, none⟩) 4 4)).run Tryz.prog (w.alloc (.cells #[.int .u8 92, .int .u8 120, .int .u8 ((hexS[5]'(by decide)).toNat : Int), .int .u8 ((hexS[12]'(by decide)).toNat : Int)] 5 (0, 0))).drew = .ok (.string (mk (escB 92))) (w.alloc (.cells #[.int .u8 92, .int .u8 120, .int .u8 ((hexS[5]'(by decide)).toNat : Int), .int .u8 ((hexS[12]'(by decide)).toNat : Int)] 5 (0, 0))).drew := by
    rw [show escB 92 = (92 : UInt8) :: 120 :: [hexS[5]'(by decide), hexS[12]'(by decide)] from by decide]
    exact conv_block _ _ 4 [92, 120, hexS[5]'(by decide), hexS[12]'(by decide)] (heap_alloc_new _ _)
  generalize mk (escB 92) = out at *
  go_enter Tryz.func52, Tryz.ntmps52
  go_wp2_with fail
  go_region
  all_goals go_wp2_with fail
  all_goals go_ret
  all_goals exact ⟨rfl, ((Below.refl _ _).alloc (Nat.le_refl _) _).drew⟩
set_option maxHeartbeats 1600000 in
set_option maxRecDepth 100000 in
theorem refWritten_40 (w : World) :
    Calls Tryz.prog 52 #[.int .u8 40] w fun e w' => e = .returned (.string (mk (escB 40))) ∧ Below w.heap.size w w' := by
  have hcv : (convert 93 9 (.slice (some ⟨w.heap.size, 0, none⟩) 4 4)).run Tryz.prog (w.alloc (.cells #[.int .u8 92, .int .u8 120, .int .u8 ((hexS[2]'(by decide)).toNat : Int), .int .u8 ((hexS[8]'(by decide)).toNat : Int)] 5 (0, 0))).drew = .ok (.string (mk (escB 40))) (w.alloc (.cells #[.int .u8 92, .int .u8 120, .int .u8 ((hexS[2]'(by decide)).toNat : Int), .int .u8 ((hexS[8]'(by decide)).toNat : Int)] 5 (0, 0))).drew := by
    rw [show escB 40 = (92 : UInt8) :: 120 :: [hexS[2]'(by decide), hexS[8]'(by decide)] from by decide]
    exact conv_block _ _ 4 [92, 120, hexS[2]'(by decide), hexS[8]'(by decide)] (heap_alloc_new _ _)
  generalize mk (escB 40) = out at *
  go_enter Tryz.func52, Tryz.ntmps52
  go_wp2_with fail
  go_region
  all_goals go_wp2_with fail
  all_goals go_ret
  all_goals exact ⟨rfl, ((Below.refl _ _).alloc (Nat.le_refl _) _).drew⟩
set_option maxHeartbeats 1600000 in
set_option maxRecDepth 100000 in
theorem refWritten_41 (w : World) :
    Calls Tryz.prog 52 #[.int .u8 41] w fun e w' => e = .returned (.string (mk (escB 41))) ∧ Below w.heap.size w w' := by
  have hcv : (convert 93 9 (.slice (some ⟨w.heap.size, 0, none⟩) 4 4)).run Tryz.prog (w.alloc (.cells #[.int .u8 92, .int .u8 120, .int .u8 ((hexS[2]'(by decide)).toNat : Int), .int .u8 ((hexS[9]'(by decide)).toNat : Int)] 5 (0, 0))).drew = .ok (.string (mk (escB 41))) (w.alloc (.cells #[.int .u8 92, .int .u8 120, .int .u8 ((hexS[2]'(by decide)).toNat : Int), .int .u8 ((hexS[9]'(by decide)).toNat : Int)] 5 (0, 0))).drew := by
    rw [show escB 41 = (92 : UInt8) :: 120 :: [hexS[2]'(by decide), hexS[9]'(by decide)] from by decide]
    exact conv_block _ _ 4 [92, 120, hexS[2]'(by decide), hexS[9]'(by decide)] (heap_alloc_new _ _)
  generalize mk (escB 41) = out at *
  go_enter Tryz.func52, Tryz.ntmps52
  go_wp2_with fail
  go_region
  all_goals go_wp2_with fail
  all_goals go_ret
  all_goals exact ⟨rfl, ((Below.refl _ _).alloc (Nat.le_refl _) _).drew⟩
theorem u8_of {c : UInt8} {n : Nat} (h : (c.toNat : Int) = n) (hn : n < 256) : c = UInt8.ofNat n := by
  apply UInt8.toNat_inj.1
  rw [UInt8.toNat_ofNat']; omega
set_option maxHeartbeats 1600000 in
set_option maxRecDepth 100000 in
/-- The document's way to write a byte is ours. -/
theorem refWritten_any (c : UInt8) (w : World) :
    Calls Tryz.prog 52 #[.int .u8 (c.toNat : Int)] w fun e w' => e = .returned (.string (mk (escB c))) ∧ Below w.heap.size w w' := by
  have hb : ((c.toNat : Nat) : Int) ≤ 255 := by have := c.toNat_lt; omega
  by_cases h92 : (c.toNat : Int) = 92
  · have := u8_of (n := 92) h92 (by decide); subst this; exact refWritten_92 w
  by_cases h40 : (c.toNat : Int) = 40
  · have := u8_of (n := 40) h40 (by decide); subst this; exact refWritten_40 w
  by_cases h41 : (c.toNat : Int) = 41
  · have := u8_of (n := 41) h41 (by decide); subst this; exact refWritten_41 w
  cases hpl : plainB (c.toNat : Int) with
  | true =>
    have HE : Hid (escB c = [c]) := by show escB c = _; rw [escB, if_pos hpl]
    have hp : 33 ≤ (c.toNat : Int) ∧ (c.toNat : Int) ≤ 126 ∧ (c.toNat : Int) ≠ 92 ∧ (c.toNat : Int) ≠ 40 ∧ (c.toNat : Int) ≠ 41 := of_decide_eq_true hpl
    obtain ⟨p1, p2, p3, p4, p5⟩ := hp
    have q1 : (32 : Int) < (c.toNat : Int) := by omega
    have q2 : (c.toNat : Int) < 127 := by omega
    have q3 : ((c.toNat : Int) != 92) = true := bne_iff_ne.2 p3
    have q4 : ((c.toNat : Int) != 40) = true := bne_iff_ne.2 p4
    have q5 : ((c.toNat : Int) != 41) = true := bne_iff_ne.2 p5
    have hcv : (convert 93 9 (.slice (some ⟨w.heap.size, 0, none⟩) 1 1)).run Tryz.prog (w.alloc (.cells #[.int .u8 (c.toNat : Int)] 5 (0, 0))) = .ok (.string (mk [c])) (w.alloc (.cells #[.int .u8 (c.toNat : Int)] 5 (0, 0))) := conv_block _ _ 1 [c] (heap_alloc_new _ _)
    clear hpl p1 p2 p3 p4 p5
    go_enter Tryz.func52, Tryz.ntmps52
    go_wp2_with fail
    go_ret
    exact ⟨ret_str (by rw [unhide HE]), (Below.refl _ _).alloc (Nat.le_refl _) _⟩
  | false =>
    obtain ⟨q, hq, hq16, HQ⟩ : ∃ q : Nat, IntKind.u8.wrap ((c.toNat : Int) / 16) = (q : Int) ∧ (q : Int) < 16 ∧ Hid (q = c.toNat / 16) := ⟨c.toNat / 16, by unfold IntKind.wrap; simp [IntKind.signed, IntKind.bits]; omega, by omega, rfl⟩
    obtain ⟨r, hr, hr16, HR⟩ : ∃ r : Nat, ((c.toNat : Int).tmod 16) = (r : Int) ∧ (r : Int) < 16 ∧ Hid (r = c.toNat % 16) := ⟨c.toNat % 16, by rw [Int.tmod_eq_emod_of_nonneg (by omega)]; omega, by omega, rfl⟩
    have HE : Hid (escB c = [92, 120, hexS[q]'(by show q < 16; omega), hexS[r]'(by show r < 16; omega)]) := by
      show escB c = _
      rw [escB, hpl, hex_at q (by show q < 16; omega), hex_at r (by show r < 16; omega), unhide HQ, unhide HR]; rfl
    have hcv : (convert 93 9 (.slice (some ⟨w.heap.size, 0, none⟩) 4 4)).run Tryz.prog (w.alloc (.cells #[.int .u8 92, .int .u8 120, .int .u8 ((hexS[q]'(by show q < 16; omega)).toNat : Int), .int .u8 ((hexS[r]'(by show r < 16; omega)).toNat : Int)] 5 (0, 0))).drew = .ok (.string (mk (escB c))) (w.alloc (.cells #[.int .u8 92, .int .u8 120, .int .u8 ((hexS[q]'(by show q < 16; omega)).toNat : Int), .int .u8 ((hexS[r]'(by show r < 16; omega)).toNat : Int)] 5 (0, 0))).drew := by
      rw [unhide HE]
      exact conv_block _ _ 4 [92, 120, hexS[q]'(by show q < 16; omega), hexS[r]'(by show r < 16; omega)] (heap_alloc_new _ _)
    have hp : ¬ (33 ≤ (c.toNat : Int) ∧ (c.toNat : Int) ≤ 126 ∧ (c.toNat : Int) ≠ 92 ∧ (c.toNat : Int) ≠ 40 ∧ (c.toNat : Int) ≠ 41) := of_decide_eq_false hpl
    have HP := hide hp
    clear hpl hp HE
    generalize mk (escB c) = out at *
    go_enter Tryz.func52, Tryz.ntmps52
    go_wp2_with fail
    all_goals first
      | (exfalso; have := unhide HP; simp at *; omega)
      | skip
    all_goals go_region
    all_goals go_wp2_with fail
    all_goals go_ret
    all_goals exact ⟨rfl, ((Below.refl _ _).alloc (Nat.le_refl _) _).drew⟩

end Go.Proofs.YtabafeckdclekaaGreatDoor
