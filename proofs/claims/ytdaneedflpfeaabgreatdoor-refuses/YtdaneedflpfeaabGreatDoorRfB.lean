import Derived.Test.YtdaneedflpfeaabGreatDoorRfA
import Derived.BigRegion
namespace Go.Proofs.YtdaneedflpfeaabGreatDoor
set_option maxRecDepth 100000
open Go.RowKit

set_option maxHeartbeats 1600000 in
theorem diff_err (a b : ByteArray) (w : World) (h : bothC a b ≠ 0) :
    Calls Tryz.prog 8 #[.string a, .string b] w fun e w' => e = .returned (.tuple #[.string ⟨#[]⟩, .int .i64 (bothC a b)]) ∧ Below w.heap.size w w' := by
  have HR := hide (readBoth_err a b w h)
  have hc : (bothC a b != 0) = true := bne_iff_ne.2 h
  clear h
  generalize bothC a b = c at *
  go_enter Tryz.func8, Tryz.ntmps8
  go_wp2_with fail
  refine (unhide HR).mono ?_
  rintro e w1 ⟨rfl, hB⟩
  have HB := hide hB
  clear hB
  go_wp2_with fail
  go_ret2
  exact ⟨rfl, unhide HB⟩

theorem row_at {wq : World} {g : Nat} {cs : Array Value} {T : TypeId} {i : Nat} {v : Value} (h : wq.heap[g]? = some (.cells cs T (0, 0))) (hc : cs[i]? = some v) : wq.cell? ⟨g, i, none⟩ = some v := by
  rw [cell_of_row wq g _ _ _ (0, 0) h]; exact hc
theorem row_lt {wq : World} {g : Nat} {o : Obj} (h : wq.heap[g]? = some o) : g < wq.heap.size := (Array.getElem?_eq_some_iff.1 h).1

/-- Which of n things a number speaks of. -/
def pickN (c : Int) (n : Int) : Int := (if c < 0 then -(c + 1) else c) % n
set_option maxHeartbeats 1600000 in
theorem pick_any (c n : Int) (w : World) (h1 : -9223372036854775808 ≤ c) (h2 : c ≤ 9223372036854775807) (hn : 0 < n) (hn2 : n ≤ 1000) : Calls Tryz.prog 5 #[.int .i64 c, .int .i64 n] w fun e w' => e = .returned (.int .i64 (pickN c n)) ∧ Below w.heap.size w w' := by
  have hne : (n == 0) = false := by simp; omega
  go_enter Tryz.func5, Tryz.ntmps5
  by_cases hc : c < 0
  · have hp : pickN c n = (-(c + 1)) % n := by rw [pickN, if_pos hc]
    have e1 : (-(c + 1)).tmod n = (-(c + 1)) % n := Int.tmod_eq_emod_of_nonneg (by omega)
    have b1 := Int.emod_nonneg (-(c + 1)) (show n ≠ 0 by omega)
    have b2 := Int.emod_lt_of_pos (-(c + 1)) hn
    go_wp2_with fail
    go_ret
    exact ⟨ret_int (by first | rfl | exact hp.symm | rw [hp, ← e1]), Below.refl _ _⟩
  · have hp : pickN c n = c % n := by rw [pickN, if_neg hc]
    have e1 : c.tmod n = c % n := Int.tmod_eq_emod_of_nonneg (by omega)
    have b1 := Int.emod_nonneg c (show n ≠ 0 by omega)
    have b2 := Int.emod_lt_of_pos c hn
    go_wp2_with fail
    go_ret
    exact ⟨ret_int (by first | rfl | exact hp.symm | rw [hp, ← e1]), Below.refl _ _⟩


theorem mk_snoc (l : List UInt8) (n : Nat) (c : UInt8) : mk (l ++ List.replicate n c) ++ ⟨#[c]⟩ = mk (l ++ List.replicate (n + 1) c) := by
  show mk _ ++ mk [c] = _
  rw [mk_append, List.append_assoc, List.replicate_succ']

set_option maxHeartbeats 12800000 in
theorem faults_any (w : World) : Calls Tryz.prog 4 #[] w fun e w' => Below w.heap.size w w' ∧ ∃ g, e = .returned (.slice (some ⟨g, 0, none⟩) 57 57) ∧ w'.heap[g]? = some (.cells fltC 26 (0, 0)) := by
  go_enter Tryz.func4, Tryz.ntmps4
  go_wp2_with fail
  go_loopw [1] (fun s wr => ∃ n : Nat, n ≤ 590 ∧ s = .string (mk ([118, 111, 105, 100, 32, 102, 40, 41, 123, 125] ++ List.replicate n 32)) ∧ Below w.heap.size w wr) (fun s _ => 610 - (match s with | .string b => b.size | _ => 0))
  case atStart => exact ⟨0, by omega, rfl, Below.refl _ _⟩
  case round =>
    obtain ⟨n, hn, rfl, hB⟩ := hrel
    have HB := hide hB
    have HSZ : Hid ((mk ([118, 111, 105, 100, 32, 102, 40, 41, 123, 125] ++ List.replicate n 32)).size = 10 + n) := by show _ = _; rw [mk_size, List.length_append, List.length_replicate]; rfl
    have HSZ' : Hid ((mk ([118, 111, 105, 100, 32, 102, 40, 41, 123, 125] ++ List.replicate (n + 1) 32)).size = 11 + n) := by show _ = _; rw [mk_size, List.length_append, List.length_replicate]; show 10 + (n + 1) = _; omega
    have HNX := hide (mk_snoc [118, 111, 105, 100, 32, 102, 40, 41, 123, 125] n 32)
    clear hB
    by_cases hlt : n < 590
    · have h1 : (mk ([118, 111, 105, 100, 32, 102, 40, 41, 123, 125] ++ List.replicate n 32)).size < 600 := by rw [unhide HSZ]; omega
      generalize mk ([118, 111, 105, 100, 32, 102, 40, 41, 123, 125] ++ List.replicate n 32) = s at *
      go_wp2_with fail
      go_roundw
      case rel => exact ⟨n + 1, by omega, by rw [← unhide HNX], unhide HB⟩
      case measure =>
        have := unhide HSZ
        have := unhide HSZ'
        rw [← unhide HNX] at this
        simp only
        omega
    · have h0 : n = 590 := by omega
      subst h0
      have HLG : Hid (mk ([118, 111, 105, 100, 32, 102, 40, 41, 123, 125] ++ List.replicate 590 32) = lgB) := rfl
      have HSL := lgB_size
      rw [unhide HLG]
      clear HSZ HSZ' HNX
      have h600 : ((lgB.size : Nat) : Int) < 600 ↔ False := by rw [lgB_size]; simp
      have hl1 : 600 ≤ lgB.size := by rw [lgB_size]; omega
      have hl2 : lgB.size ≤ 600 := by rw [lgB_size]; omega
      clear HSL h600 HLG
      generalize hlg : lgB = lg at *
      have HLG := hide hlg
      clear hlg
      go_wp2_with fail
      go_loopw [2, 3] (fun s i wr => ∃ n : Nat, n ≤ 17 ∧ s = .string (mk ([] ++ List.replicate n 40)) ∧ i = .int .i64 (n : Int) ∧ Below w.heap.size w wr) (fun _ i _ => 17 - (intOf i).toNat)
      case atStart => exact ⟨0, by omega, rfl, rfl, unhide HB⟩
      case round =>
        obtain ⟨n, hn, rfl, rfl, hB⟩ := hrel
        have HB2 := hide hB
        have hsz : (mk ([] ++ List.replicate n (40 : UInt8))).size ≤ 100 := by rw [mk_size, List.length_append, List.length_replicate]; show 0 + n ≤ 100; omega
        have HNX := hide (mk_snoc [] n 40)
        clear hB HB
        by_cases hlt2 : n < 17
        · generalize mk ([] ++ List.replicate n (40 : UInt8)) = s at *
          go_wp2_with fail
          go_roundw
          case rel => exact ⟨n + 1, by omega, by rw [← unhide HNX], by go_num, unhide HB2⟩
          case measure => simp [intOf]; omega
        · have h0 : n = 17 := by omega
          subst h0
          have HDP : Hid ((⟨#[118, 111, 105, 100, 32, 102, 40, 41, 123]⟩ : ByteArray) ++ mk ([] ++ List.replicate 17 (40 : UInt8)) ++ ⟨#[97]⟩ = mk ([118, 111, 105, 100, 32, 102, 40, 41, 123] ++ List.replicate 17 40 ++ [97] ++ List.replicate 0 41)) := by
            show mk [118, 111, 105, 100, 32, 102, 40, 41, 123] ++ mk _ ++ mk [97] = _
            rw [mk_append, mk_append]; rfl
          have hz2 : ((⟨#[118, 111, 105, 100, 32, 102, 40, 41, 123]⟩ : ByteArray) ++ mk ([] ++ List.replicate 17 (40 : UInt8))).size ≤ 200 := by rw [ByteArray.size_append]; show 9 + _ ≤ 200; omega
          clear HNX
          generalize mk ([] ++ List.replicate 17 (40 : UInt8)) = s at *
          go_wp2_with fail
          rw [unhide HDP]
          go_loopw [2, 4] (fun s i wr => ∃ n : Nat, n ≤ 17 ∧ s = .string (mk ([118, 111, 105, 100, 32, 102, 40, 41, 123] ++ List.replicate 17 40 ++ [97] ++ List.replicate n 41)) ∧ i = .int .i64 (n : Int) ∧ Below w.heap.size w wr) (fun _ i _ => 17 - (intOf i).toNat)
          case atStart => exact ⟨0, by omega, rfl, rfl, unhide HB2⟩
          case round =>
            obtain ⟨n, hn, rfl, rfl, hB⟩ := hrel
            have HB3 := hide hB
            have HSZ3 : Hid ((mk ([118, 111, 105, 100, 32, 102, 40, 41, 123] ++ List.replicate 17 40 ++ [97] ++ List.replicate n (41 : UInt8))).size = 27 + n) := by show _ = _; rw [mk_size, List.length_append, List.length_replicate]; rfl
            have hsz3 : (mk ([118, 111, 105, 100, 32, 102, 40, 41, 123] ++ List.replicate 17 40 ++ [97] ++ List.replicate n (41 : UInt8))).size ≤ 100 := by rw [unhide HSZ3]; omega
            have HNX3 := hide (mk_snoc ([118, 111, 105, 100, 32, 102, 40, 41, 123] ++ List.replicate 17 40 ++ [97]) n 41)
            clear hB HB2 hsz hz2 HDP
            by_cases hlt3 : n < 17
            · generalize mk ([118, 111, 105, 100, 32, 102, 40, 41, 123] ++ List.replicate 17 40 ++ [97] ++ List.replicate n (41 : UInt8)) = s at *
              go_wp2_with fail
              go_roundw
              case rel => exact ⟨n + 1, by omega, by rw [← unhide HNX3], by go_num, unhide HB3⟩
              case measure => simp [intOf]; omega
            · have h0 : n = 17 := by omega
              subst h0
              have HDB : Hid (mk ([118, 111, 105, 100, 32, 102, 40, 41, 123] ++ List.replicate 17 40 ++ [97] ++ List.replicate 17 41) = dpB) := rfl
              have d1 : 9 ≤ dpB.size := by rw [← unhide HDB, unhide HSZ3]; omega
              have d2 : dpB.size ≤ 100 := by rw [← unhide HDB]; exact hsz3
              rw [unhide HDB]
              clear HNX3 HSZ3 hsz3 HDB
              generalize hdp : dpB = dp at *
              have HDP := hide hdp
              clear hdp
              go_wp2_with fail
              go_loopw [5, 6] (fun s i wr => ∃ n : Nat, n ≤ 34 ∧ s = .string (mk ([118, 111, 105, 100, 32, 102, 40, 41, 123] ++ List.replicate n 59)) ∧ i = .int .i64 (n : Int) ∧ Below w.heap.size w wr) (fun _ i _ => 34 - (intOf i).toNat)
              case atStart => exact ⟨0, by omega, rfl, rfl, unhide HB3⟩
              case round =>
                obtain ⟨n, hn, rfl, rfl, hB⟩ := hrel
                have HB4 := hide hB
                have hsz4 := hB.size
                have z4 : (mk ([118, 111, 105, 100, 32, 102, 40, 41, 123] ++ List.replicate n (59 : UInt8))).size ≤ 100 := by rw [mk_size, List.length_append, List.length_replicate]; show 9 + n ≤ 100; omega
                have HNX4 := hide (mk_snoc [118, 111, 105, 100, 32, 102, 40, 41, 123] n 59)
                clear hB HB3
                by_cases hlt4 : n < 34
                · generalize mk ([118, 111, 105, 100, 32, 102, 40, 41, 123] ++ List.replicate n (59 : UInt8)) = s at *
                  go_wp2_with fail
                  go_roundw
                  case rel => exact ⟨n + 1, by omega, by rw [← unhide HNX4], by go_num, unhide HB4⟩
                  case measure => simp [intOf]; omega
                · have h0 : n = 34 := by omega
                  subst h0
                  have HMN : Hid (mk ([118, 111, 105, 100, 32, 102, 40, 41, 123] ++ List.replicate 34 59) = mnB) := rfl
                  rw [unhide HMN] at z4 ⊢
                  clear HNX4 HMN
                  generalize hmn : mnB = mn at *
                  have HMN := hide hmn
                  clear hmn
                  have x1 : (dp.extract 0 9).size ≤ 9 := by rw [ByteArray.size_extract]; omega
                  have x2 : (dp.extract 9 dp.size).size ≤ 100 := by rw [ByteArray.size_extract]; omega
                  have x3 : (dp.extract 0 9 ++ (⟨#[40]⟩ : ByteArray)).size ≤ 10 := by rw [ByteArray.size_append]; show _ + 1 ≤ 10; omega
                  have x4 : (dp.extract 0 9 ++ (⟨#[40]⟩ : ByteArray) ++ dp.extract 9 dp.size).size ≤ 110 := by rw [ByteArray.size_append]; omega
                  go_wp2_with fail
                  simp only [List.append]
                  obtain ⟨RNG, hrng, hrngs⟩ : ∃ R : Array Nat, Array.range 171 = R ∧ R.size = 171 := ⟨_, rfl, Array.size_range⟩
                  go_big_region
                  clear hrngs
                  go_wp2_with fail
                  go_ret
                  subst hrng
                  refine ⟨((unhide HB4).drew).alloc hsz4 _, _, rfl, ?_⟩
                  refine (heap_alloc_new _ _).trans ?_
                  refine Eq.trans (congrArg (fun c => some (Obj.cells c 26 (0, 0))) (?_ : _ = fltV lg (lg ++ ⟨#[32]⟩) (dp ++ ⟨#[59, 125]⟩) (dp.extract 0 9 ++ ⟨#[40]⟩ ++ dp.extract 9 dp.size ++ ⟨#[41, 59, 125]⟩) (mn ++ ⟨#[59, 125]⟩) (mn ++ ⟨#[59, 59, 125]⟩) (mn ++ ⟨#[97, 59, 125]⟩))) ?_
                  · kernel_rfl
                  · rw [← unhide HLG, ← unhide HDP, ← unhide HMN]
                    rfl

end Go.Proofs.YtdaneedflpfeaabGreatDoor
