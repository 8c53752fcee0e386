import Derived.Test.YtdaneedflpfeaaaKeepK
import Derived.Laws.Bits128
import Derived.Deep.RegionHeld3
namespace Go.Proofs.Ytdaneedflpfeaaa
set_option maxRecDepth 100000
open Go.RowKit

theorem i64_and63 (n : Int) : bits .and .i64 n 63 = n % 64 := by
  have h63 : (BitVec.ofInt 64 63).toNat = 2 ^ 6 - 1 := by decide
  have key : (BitVec.ofInt 64 n &&& BitVec.ofInt 64 63).toNat = (n % ((2 ^ 64 : Nat) : Int)).toNat % 2 ^ 6 := by
    rw [BitVec.toNat_and, BitVec.toNat_ofInt, h63, Nat.and_two_pow_sub_one_eq_mod]
  show IntKind.i64.wrap ((BitVec.ofInt 64 n &&& BitVec.ofInt 64 63).toNat : Nat) = n % 64
  rw [key, IntKind.wrap_i64]
  omega
theorem cat_void (W : List UInt8) : (⟨#[118, 111, 105, 100, 32]⟩ : ByteArray) ++ mk W = mk (voidB ++ (32 :: W)) := by
  show mk [118, 111, 105, 100, 32] ++ mk W = _
  rw [mk_append]; rfl
theorem cat_tail (l : List UInt8) (B : ByteArray) : mk l ++ B = mk (l ++ B.data.toList) := cat_mk l B

def stmO : Obj := .cells #[.string ⟨#[59]⟩, .string ⟨#[123, 125]⟩, .string ⟨#[114, 101, 116, 117, 114, 110, 59]⟩, .string ⟨#[120, 59]⟩, .string ⟨#[120, 61, 49, 59]⟩, .string ⟨#[102, 40, 41, 59]⟩, .string ⟨#[114, 101, 116, 117, 114, 110, 32, 45, 120, 59]⟩] 9 (0, 0)
def sizO : Obj := .cells #[.int .i64 2, .int .i64 3, .int .i64 3, .int .i64 3, .int .i64 6, .int .i64 6, .int .i64 6] 3 (0, 0)
theorem stm_cell (k : Fin 7) : (#[Value.string ⟨#[59]⟩, .string ⟨#[123, 125]⟩, .string ⟨#[114, 101, 116, 117, 114, 110, 59]⟩, .string ⟨#[120, 59]⟩, .string ⟨#[120, 61, 49, 59]⟩, .string ⟨#[102, 40, 41, 59]⟩, .string ⟨#[114, 101, 116, 117, 114, 110, 32, 45, 120, 59]⟩] : Array Value)[(k : Nat)]? = some (.string (mk (stmB k))) := by
  match k with
  | 0 => rfl
  | 1 => rfl
  | 2 => rfl
  | 3 => rfl
  | 4 => rfl
  | 5 => rfl
  | 6 => rfl
theorem siz_cell (k : Fin 7) : (#[Value.int .i64 2, .int .i64 3, .int .i64 3, .int .i64 3, .int .i64 6, .int .i64 6, .int .i64 6] : Array Value)[(k : Nat)]? = some (.int .i64 ((stmR k).length : Int)) := by
  match k with
  | 0 => rfl
  | 1 => rfl
  | 2 => rfl
  | 3 => rfl
  | 4 => rfl
  | 5 => rfl
  | 6 => rfl
theorem tab_cells (w : World) (k : Fin 7) : ∀ wq : World, (∀ i, i < w.heap.size + 2 → wq.heap[i]? = ((w.alloc stmO).alloc sizO).heap[i]?) → wq.cell? ⟨w.heap.size, k, none⟩ = some (.string (mk (stmB k))) ∧ wq.cell? ⟨w.heap.size + 1, k, none⟩ = some (.int .i64 ((stmR k).length : Int)) := fun wq hq => by
  have h1 : wq.heap[w.heap.size]? = some stmO := by
    rw [hq _ (by omega), Below.heap_alloc _ _ _ (by simp)]; exact heap_alloc_new _ _
  have h2 : wq.heap[w.heap.size + 1]? = some sizO := by
    rw [hq _ (by omega)]
    have := heap_alloc_new (w.alloc stmO) sizO
    simpa using this
  unfold stmO at h1
  unfold sizO at h2
  exact ⟨(cell_of_row wq _ _ _ _ _ h1).trans (stm_cell k), (cell_of_row wq _ _ _ _ _ h2).trans (siz_cell k)⟩

set_option maxHeartbeats 3200000 in
theorem renamed_any (u v : ByteArray) (more : Int) (w : World) : Calls Try.prog 6 #[.string u, .string v, .int .i64 more] w fun e w' => e = .returned (.bool true) ∧ Below w.heap.size w w' := by
  have HWD := hide (fun s w1 => word_any s w1)
  have HD : Hid (∀ s t w1, Calls Try.prog 13 #[.string s, .string t] w1 fun e w' => e = .returned (.tuple #[.int .i64 (distT s t).1, .int .i64 (distT s t).2]) ∧ Below w1.heap.size w1 w') := fun s t w1 => dist_any s t w1
  obtain ⟨k, hk⟩ : ∃ k : Fin 7, (k : Nat) = (more % 64).toNat % 7 := ⟨⟨(more % 64).toNat % 7, Nat.mod_lt _ (by decide)⟩, rfl⟩
  have hand := i64_and63 more
  obtain ⟨r, hr⟩ : ∃ r : Nat, (more % 64) = (r : Int) := ⟨(more % 64).toNat, by omega⟩
  rw [hr] at hand hk
  have hr64 : r < 64 := by omega
  have hkr : ((r : Int) % 7) = ((k : Nat) : Int) := by omega
  have nU := word_nam u.data.toList
  have nV := word_nam v.data.toList
  have lU := word_len u.data.toList
  have lV := word_len v.data.toList
  have pA := prg0 nU (by omega)
  have pB := prg0 nV (by omega)
  have pC := prg1 nV (by omega) k
  have hx := pA.dist pB
  have hy := pA.dist pC
  rw [ren0] at hx
  rw [ren1 nU k] at hy
  -- the texts, by names of their own
  obtain ⟨a1, ha1⟩ : ∃ a1, (⟨#[118, 111, 105, 100, 32]⟩ : ByteArray) ++ mk (wordL u.data.toList) = a1 := ⟨_, rfl⟩
  obtain ⟨a2, ha2⟩ : ∃ a2, a1 ++ (⟨#[40, 41, 123, 125]⟩ : ByteArray) = a2 := ⟨_, rfl⟩
  obtain ⟨b1, hb1⟩ : ∃ b1, (⟨#[118, 111, 105, 100, 32]⟩ : ByteArray) ++ mk (wordL v.data.toList) = b1 := ⟨_, rfl⟩
  obtain ⟨b2, hb2⟩ : ∃ b2, b1 ++ (⟨#[40, 41, 123, 125]⟩ : ByteArray) = b2 := ⟨_, rfl⟩
  obtain ⟨c1, hc1⟩ : ∃ c1, b1 ++ (⟨#[40, 41, 123]⟩ : ByteArray) = c1 := ⟨_, rfl⟩
  obtain ⟨c2, hc2⟩ : ∃ c2, c1 ++ mk (stmB k) = c2 := ⟨_, rfl⟩
  obtain ⟨c3, hc3⟩ : ∃ c3, c2 ++ (⟨#[125]⟩ : ByteArray) = c3 := ⟨_, rfl⟩
  have xa : a2 = mk (voidB ++ (32 :: (wordL u.data.toList ++ [40, 41, 123, 125]))) := by
    rw [← ha2, ← ha1, cat_void, cat_tail]; congr 1
  have xb : b2 = mk (voidB ++ (32 :: (wordL v.data.toList ++ [40, 41, 123, 125]))) := by
    rw [← hb2, ← hb1, cat_void, cat_tail]; congr 1
  have xc : c3 = mk (voidB ++ (32 :: (wordL v.data.toList ++ 40 :: 41 :: 123 :: (stmB k ++ [125])))) := by
    rw [← hc3, ← hc2, ← hc1, ← hb1, cat_void, cat_tail, mk_append, cat_tail]; congr 1; simp
  rw [← xa, ← xb] at hx
  rw [← xa, ← xc] at hy
  have za1 : a1.size ≤ 20 := by rw [← ha1, cat_void, mk_size]; simp [voidB]; try omega
  have zb1 : b1.size ≤ 20 := by rw [← hb1, cat_void, mk_size]; simp [voidB]; try omega
  have zc1 : c1.size ≤ 30 := by rw [← hc1, ByteArray.size_append]; have : (⟨#[40, 41, 123]⟩ : ByteArray).size = 3 := rfl; omega
  have zc2 : c2.size ≤ 50 := by rw [← hc2, ByteArray.size_append, mk_size]; have := (stm_len k).2; omega
  have zU : (mk (wordL u.data.toList)).size ≤ 9 := by rw [mk_size]; exact lU
  have zV : (mk (wordL v.data.toList)).size ≤ 9 := by rw [mk_size]; exact lV
  have HEQ : Hid (((mk (wordL u.data.toList)).toList == (mk (wordL v.data.toList)).toList) = decide (far (wordL u.data.toList) (wordL v.data.toList) = 0)) := by
    show _ = _
    rw [mk_toList, mk_toList]
    unfold far
    by_cases h : wordL u.data.toList = wordL v.data.toList
    · simp [h]
    · simp [h]
  have hfar : far (wordL u.data.toList) (wordL v.data.toList) = 0 ∨ far (wordL u.data.toList) (wordL v.data.toList) = 1 := by unfold far; split <;> simp
  have HX := hide hx
  have HY := hide hy
  clear hx hy pA pB pC nU nV xa xb xc lU lV hk hr
  generalize far (wordL u.data.toList) (wordL v.data.toList) = n at *
  have HWU := hide (fun w1 => word_any u w1)
  have HWV := hide (fun w1 => word_any v w1)
  clear HWD
  generalize mk (wordL u.data.toList) = bu at *
  generalize mk (wordL v.data.toList) = bv at *
  go_enter Try.func6, Try.ntmps6
  go_wp2_with fail
  refine (unhide HWU _).mono ?_
  rintro e w1 ⟨rfl, hB1⟩
  have HB1 := hide hB1
  clear hB1
  go_wp2_with fail
  refine (unhide HWV _).mono ?_
  rintro e w2 ⟨rfl, hB2⟩
  have HB2 := hide ((unhide HB1).trans (hB2.mono (unhide HB1).size))
  clear hB2 HB1
  go_wp2_with fail
  refine (unhide HWU _).mono ?_
  rintro e w3 ⟨rfl, hB3⟩
  have HB3 := hide ((unhide HB2).trans (hB3.mono (unhide HB2).size))
  clear hB3 HB2
  go_wp2_with fail
  refine (unhide HWV _).mono ?_
  rintro e w4 ⟨rfl, hB4⟩
  have HB4 := hide ((unhide HB3).trans (hB4.mono (unhide HB3).size))
  clear hB4 HB3
  rcases hfar with rfl | rfl
  all_goals
    have heq := unhide HEQ
    simp only [decide_true, Nat.one_ne_zero, decide_false] at heq
    go_wp2_with fail
    refine (unhide HD _ _ _).mono ?_
    rw [unhide HX]
    rintro e w5 ⟨rfl, hB5⟩
    have HB5 := hide ((unhide HB4).trans (hB5.mono (unhide HB4).size))
    clear hB5 HB4
    have HTC := hide (tab_cells w5 k)
    unfold stmO sizO at HTC
    have HB6 : Hid (Below w.heap.size w ((w5.alloc (.cells #[.string ⟨#[59]⟩, .string ⟨#[123, 125]⟩, .string ⟨#[114, 101, 116, 117, 114, 110, 59]⟩, .string ⟨#[120, 59]⟩, .string ⟨#[120, 61, 49, 59]⟩, .string ⟨#[102, 40, 41, 59]⟩, .string ⟨#[114, 101, 116, 117, 114, 110, 32, 45, 120, 59]⟩] 9 (0, 0))).alloc (.cells #[.int .i64 2, .int .i64 3, .int .i64 3, .int .i64 3, .int .i64 6, .int .i64 6, .int .i64 6] 3 (0, 0)))) := ((unhide HB5).alloc (unhide HB5).size _).alloc (by simp; have := (unhide HB5).size; omega) _
    have HS0 : Hid (((w5.alloc (.cells #[.string ⟨#[59]⟩, .string ⟨#[123, 125]⟩, .string ⟨#[114, 101, 116, 117, 114, 110, 59]⟩, .string ⟨#[120, 59]⟩, .string ⟨#[120, 61, 49, 59]⟩, .string ⟨#[102, 40, 41, 59]⟩, .string ⟨#[114, 101, 116, 117, 114, 110, 32, 45, 120, 59]⟩] 9 (0, 0))).alloc (.cells #[.int .i64 2, .int .i64 3, .int .i64 3, .int .i64 3, .int .i64 6, .int .i64 6, .int .i64 6] 3 (0, 0))).drew.cell? ⟨w5.heap.size, k, none⟩ = some (.string (mk (stmB k)))) := (unhide HTC _ (fun i _ => rfl)).1
    have hk7 : (k : Nat) < 7 := k.isLt
    have hm1 := (stm_len k).1
    have zst : (mk (stmB k)).size ≤ 10 := by rw [mk_size]; exact (stm_len k).2
    have n1 : (0 : Int) ≤ ((k : Nat) : Int) := by omega
    have n2 : ((k : Nat) : Int) < 7 := by omega
    clear HB5
    generalize mk (stmB k) = st at *
    generalize (stmR k).length = ln at *
    generalize (k : Nat) = kk at *
    have g1 : (IntKind.i64.max < (5 : Int) + (bv.size : Int)) = False := eq_false (by show ¬ ((9223372036854775807 : Int) < (5 : Int) + (bv.size : Int)); omega)
    have g1' : ((9223372036854775807 : Int) < (5 : Int) + (bv.size : Int)) = False := eq_false (by omega)
    have g2 : (IntKind.i64.max < (b1.size : Int) + 3) = False := eq_false (by show ¬ ((9223372036854775807 : Int) < (b1.size : Int) + 3); omega)
    have g2' : ((9223372036854775807 : Int) < (b1.size : Int) + 3) = False := eq_false (by omega)
    have g3 : (IntKind.i64.max < (c1.size : Int) + (st.size : Int)) = False := eq_false (by show ¬ ((9223372036854775807 : Int) < (c1.size : Int) + (st.size : Int)); omega)
    have g3' : ((9223372036854775807 : Int) < (c1.size : Int) + (st.size : Int)) = False := eq_false (by omega)
    have g4 : (IntKind.i64.max < (c2.size : Int) + 1) = False := eq_false (by show ¬ ((9223372036854775807 : Int) < (c2.size : Int) + 1); omega)
    have g4' : ((9223372036854775807 : Int) < (c2.size : Int) + 1) = False := eq_false (by omega)
    go_wp2_with fail
    go_region_held (fun wq => wq.cell? ⟨w5.heap.size, kk, none⟩ = some (.string st)) (first | exact unhide HS0 | exact unhide HS7) (first | (go_at_call 16; refine (unhide HWV _).mono ?_; rintro e w7 ⟨rfl, hB7⟩; have HB7 : Hid (Below w.heap.size w w7) := ((unhide HB6).drew).trans (hB7.mono (by have := (unhide HB6).size; exact this)); have HT7 := hide (unhide HTC w7 (fun i hi => hB7.block i (by simpa using hi))); have HS7 : Hid (w7.cell? ⟨w5.heap.size, kk, none⟩ = some (.string st)) := (unhide HT7).1; have hz7 : w5.heap.size + 2 ≤ w7.heap.size := (by have := hB7.size; simpa using this); have HK7 := hide (fun i (hi : i < w5.heap.size + 2) => hB7.block i (by simpa using hi)); clear hB7))
    all_goals
      clear g1 g1' g2 g2' g3 g3' g4 g4'
      go_wp2_with fail
      refine (unhide HD _ _ _).mono ?_
      rw [unhide HY]
      rintro e w8 ⟨rfl, hB8⟩
      have HB8 := hide ((unhide HB7).trans (hB8.mono (unhide HB7).size))
      have t8 := unhide HTC w8 (fun i hi => (hB8.block i (by omega)).trans (unhide HK7 i hi))
      obtain ⟨_, t8⟩ := t8
      clear hB8 HB7
      go_wp2_with fail
      go_ret
      exact ⟨ret_bool (by first | (simp; done) | (simp; omega)), unhide HB8⟩

end Go.Proofs.Ytdaneedflpfeaaa
