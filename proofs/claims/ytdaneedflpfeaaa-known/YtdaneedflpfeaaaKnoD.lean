import Derived.Test.YtdaneedflpfeaaaKnoB
import Derived.Test.YtdaneedflpfeaaaKnoC
namespace Go.Proofs.Ytdaneedflpfeaaa
set_option maxRecDepth 100000
open Go.RowKit

/-! ## A long script -/
def unitL : List UInt8 := [114, 32, 49, 32, 64, 102, 117, 110, 99, 116, 105, 111, 110, 10]
def repL : Nat → List UInt8
  | 0 => []
  | n + 1 => unitL ++ repL n
theorem repL_len (n : Nat) : (repL n).length = 14 * n := by
  induction n with
  | zero => rfl
  | succ n ih => rw [repL, List.length_append, ih]; show 14 + 14 * n = _; omega
theorem repL_snoc (n : Nat) : repL (n + 1) = repL n ++ unitL := by
  induction n with
  | zero => simp [repL]
  | succ n ih =>
    have e : repL (n + 1 + 1) = unitL ++ repL (n + 1) := rfl
    have e2 : repL (n + 1) ++ unitL = unitL ++ (repL n ++ unitL) := by show unitL ++ repL n ++ unitL = _; rw [List.append_assoc]
    rw [e2, ← ih, e]
theorem repL_drop (i m : Nat) : (repL (i + m)).drop (14 * i) = repL m := by
  induction i with
  | zero => simp
  | succ i ih =>
    rw [show i + 1 + m = (i + m) + 1 by omega, repL, show 14 * (i + 1) = unitL.length + 14 * i by show _ = 14 + _; omega, ← List.drop_drop, List.drop_left, ih]
def lngB : ByteArray := (mk (repL 643)).extract 0 9000
theorem lngB_list : lngB.data.toList = (repL 643).take 9000 := by
  unfold lngB
  rw [ext_mk]
  show List.take (9000 - 0) (List.drop 0 (repL 643)) = _
  rw [List.drop_zero]
theorem lngB_size : lngB.size = 9000 := by
  show lngB.data.toList.length = _
  rw [lngB_list, List.length_take, repL_len]
  decide
theorem long_at (i : Nat) (hi : i < 642) : lngB.data.toList.drop (14 * i) = [114, 32, 49, 32, 64, 102, 117, 110, 99, 116, 105, 111, 110] ++ 10 :: lngB.data.toList.drop (14 * (i + 1)) := by
  rw [lngB_list, List.drop_take, List.drop_take]
  obtain ⟨m, hm⟩ : ∃ m, 643 = i + (m + 1) := ⟨642 - i, by omega⟩
  have e2 := repL_drop (i + 1) m
  rw [hm, repL_drop, show i + (m + 1) = (i + 1) + m by omega, e2, repL, show 9000 - 14 * i = unitL.length + (9000 - 14 * (i + 1)) by show _ = 14 + _; omega, List.take_length_add_append]
  rfl
theorem long_end : lngB.data.toList.drop (14 * 642) = [114, 32, 49, 32, 64, 102, 117, 110, 99, 116, 105, 111] := by
  rw [lngB_list, List.drop_take]
  have := repL_drop 642 1
  rw [show 643 = 642 + 1 from rfl, this]
  rfl
theorem runE_seg (d : ByteArray) (r : List UInt8) (hr : r = [] ∨ ∃ r', r = 10 :: r') : ∀ (l : List UInt8) (a : Nat), a ≤ d.size → d.data.toList.drop a = l ++ r → (∀ x ∈ l, x ≠ 10) → runE noLf d a = a + l.length := by
  intro l
  induction l with
  | nil =>
    intro a ha e _
    rw [List.nil_append] at e
    refine runE_no fun h => ?_
    rw [drop_at h] at e
    rcases hr with rfl | ⟨r', rfl⟩
    · cases e
    · simp only [List.cons.injEq] at e
      rw [bt_in h, e.1]; rfl
  | cons x l ih =>
    intro a ha e hl
    have h : a < d.size := by
      rcases Nat.lt_or_ge a d.size with q | q
      · exact q
      · rw [List.drop_of_length_le (show d.data.toList.length ≤ a from q)] at e; cases e
    rw [drop_at h] at e
    simp only [List.cons_append, List.cons.injEq] at e
    rw [runE_yes h (by
      rw [bt_in h, e.1]
      simp only [noLf, bne_iff_ne, ne_eq]
      intro q
      exact hl x (by simp) (UInt8.toNat_inj.1 (by show _ = 10; omega))), ih (a + 1) h e.2 (fun y hy => hl y (by simp [hy]))]
    simp only [List.length_cons]; omega
def voidL : List Nd := (nodeR kProgram [⟨0, true, ⟨#[102, 117, 110, 99, 116, 105, 111, 110]⟩⟩, ⟨1, false, ⟨#[118, 111, 105, 100]⟩⟩, ⟨1, false, ⟨#[32, 102]⟩⟩, ⟨1, false, ⟨#[40]⟩⟩, ⟨1, false, ⟨#[41]⟩⟩, ⟨1, true, ⟨#[98, 108, 111, 99, 107]⟩⟩, ⟨2, false, ⟨#[123]⟩⟩, ⟨2, false, ⟨#[125]⟩⟩, ⟨0, false, ⟨#[]⟩⟩]).map (toNd 0)
theorem voidL_out : outF voidS = .ok voidL := by kernel_rfl
theorem unit_step : stepWF (splitL 32 [114, 32, 49, 32, 64, 102, 117, 110, 99, 116, 105, 111, 110]) = some (.ren 1 true ⟨#[102, 117, 110, 99, 116, 105, 111, 110]⟩) := by kernel_rfl
theorem unit_ren : stepF voidL (.ren 1 true ⟨#[102, 117, 110, 99, 116, 105, 111, 110]⟩) = some voidL := by kernel_rfl
theorem long_run : ∀ n i, i + n = 642 → scrN lngB voidL (14 * i) (i + 1) = .bad 643 := by
  intro n
  induction n with
  | zero =>
    intro i hi
    have e : i = 642 := by omega
    subst e
    have hz : runE noLf lngB (14 * 642) = 14 * 642 + 12 := runE_seg lngB [] (.inl rfl) [114, 32, 49, 32, 64, 102, 117, 110, 99, 116, 105, 111] (14 * 642) (by rw [lngB_size]; omega) (by rw [List.append_nil]; exact long_end) (by decide)
    rw [scrN, dif_pos (by rw [lngB_size]; omega), dif_neg (by rw [hz, lngB_size]; omega)]
  | succ n ih =>
    intro i hi
    have hl := long_at i (by omega)
    have hz : runE noLf lngB (14 * i) = 14 * i + 13 := runE_seg lngB _ (.inr ⟨_, rfl⟩) [114, 32, 49, 32, 64, 102, 117, 110, 99, 116, 105, 111, 110] (14 * i) (by rw [lngB_size]; omega) hl (by decide)
    have hline : lineL lngB (14 * i) = [114, 32, 49, 32, 64, 102, 117, 110, 99, 116, 105, 111, 110] := by
      unfold lineL
      rw [hz, hl, Nat.add_sub_cancel_left]
      rfl
    rw [scrN, dif_pos (by rw [lngB_size]; omega), dif_pos (by rw [hz, lngB_size]; omega), hline, stepW_F, unit_step]
    simp only
    rw [stepN_F, unit_ren]
    simp only
    rw [hz, show 14 * i + 13 + 1 = 14 * (i + 1) by omega]
    exact ih (i + 1) (by omega)
def paA30 : ByteArray := ⟨#[118, 111, 105, 100, 32, 102, 40, 41, 123, 125]⟩
def paD30 : ByteArray := lngB
def paS30 : ByteArray := ⟨#[]⟩
def paA31 : ByteArray := ⟨#[118, 111, 105, 100, 32, 102, 40, 41, 123, 125]⟩
def paD31 : ByteArray := lngB ++ ⟨#[10]⟩
def paS31 : ByteArray := ⟨#[]⟩
theorem pa30 {s : ByteArray} {c p : Int} (h : PatchOut paA30 paD30 s c p) : s = paS30 ∧ c = 5 ∧ p = 643 := by
  have h0 : outT paA30 = .ok voidL := by rw [outT_F]; exact voidL_out
  have hs : paD30.size = 9000 := lngB_size
  have hr0 : scrN paD30 voidL 0 1 = .bad 643 := long_run 642 0 rfl
  cases h with
  | err c p h => rw [h0] at h; cases h
  | long n h hd => omega
  | bad n k h hd hr => rw [h0] at h; cases h; rw [hr0] at hr; cases hr; exact ⟨rfl, rfl, rfl⟩
  | none n L h hd hr ht => rw [h0] at h; cases h; rw [hr0] at hr; cases hr
  | ok n L h hd hr ht => rw [h0] at h; cases h; rw [hr0] at hr; cases hr
theorem pa31 {s : ByteArray} {c p : Int} (h : PatchOut paA31 paD31 s c p) : s = paS31 ∧ c = 1 ∧ p = 0 := by
  have h0 : outT paA31 = .ok voidL := by rw [outT_F]; exact voidL_out
  have hs : paD31.size = 9001 := by
    show (lngB ++ ⟨#[10]⟩).size = 9001
    rw [ByteArray.size_append, lngB_size]; rfl
  cases h with
  | err c p h => rw [h0] at h; cases h
  | long n h hd => exact ⟨rfl, rfl, rfl⟩
  | bad n k h hd hr => omega
  | none n L h hd hr ht => omega
  | ok n L h hd hr ht => omega
def lotS : Nat → ByteArray
  | 0 => ltS0
  | 1 => ltS1
  | 2 => ltS2
  | 3 => ltS3
  | 4 => ltS4
  | 5 => ltS5
  | 6 => ltS6
  | 7 => ltS7
  | 8 => ltS8
  | 9 => ltS9
  | 10 => ltS10
  | 11 => ltS11
  | _ => ltS12
def lotT : Nat → ByteArray
  | 0 => ltT0
  | 1 => ltT1
  | 2 => ltT2
  | 3 => ltT3
  | 4 => ltT4
  | 5 => ltT5
  | 6 => ltT6
  | 7 => ltT7
  | 8 => ltT8
  | 9 => ltT9
  | 10 => ltT10
  | 11 => ltT11
  | _ => ltT12
def parA : Nat → ByteArray
  | 0 => prA0
  | 1 => prA1
  | 2 => prA2
  | 3 => prA3
  | 4 => prA4
  | 5 => prA5
  | 6 => prA6
  | 7 => prA7
  | 8 => prA8
  | 9 => prA9
  | 10 => prA10
  | 11 => prA11
  | 12 => prA12
  | _ => prA13
def parB : Nat → ByteArray
  | 0 => prB0
  | 1 => prB1
  | 2 => prB2
  | 3 => prB3
  | 4 => prB4
  | 5 => prB5
  | 6 => prB6
  | 7 => prB7
  | 8 => prB8
  | 9 => prB9
  | 10 => prB10
  | 11 => prB11
  | 12 => prB12
  | _ => prB13
def parD : Nat → Nat
  | 0 => 1
  | 1 => 2
  | 2 => 3
  | 3 => 2
  | 4 => 5
  | 5 => 8
  | 6 => 2
  | 7 => 1
  | 8 => 2
  | 9 => 6
  | 10 => 8
  | 11 => 2
  | 12 => 2
  | _ => 6
def pchA : Nat → ByteArray
  | 0 => paA0
  | 1 => paA1
  | 2 => paA2
  | 3 => paA3
  | 4 => paA4
  | 5 => paA5
  | 6 => paA6
  | 7 => paA7
  | 8 => paA8
  | 9 => paA9
  | 10 => paA10
  | 11 => paA11
  | 12 => paA12
  | 13 => paA13
  | 14 => paA14
  | 15 => paA15
  | 16 => paA16
  | 17 => paA17
  | 18 => paA18
  | 19 => paA19
  | 20 => paA20
  | 21 => paA21
  | 22 => paA22
  | 23 => paA23
  | 24 => paA24
  | 25 => paA25
  | 26 => paA26
  | 27 => paA27
  | 28 => paA28
  | 29 => paA29
  | 30 => paA30
  | 31 => paA31
  | _ => paA32
def pchD : Nat → ByteArray
  | 0 => paD0
  | 1 => paD1
  | 2 => paD2
  | 3 => paD3
  | 4 => paD4
  | 5 => paD5
  | 6 => paD6
  | 7 => paD7
  | 8 => paD8
  | 9 => paD9
  | 10 => paD10
  | 11 => paD11
  | 12 => paD12
  | 13 => paD13
  | 14 => paD14
  | 15 => paD15
  | 16 => paD16
  | 17 => paD17
  | 18 => paD18
  | 19 => paD19
  | 20 => paD20
  | 21 => paD21
  | 22 => paD22
  | 23 => paD23
  | 24 => paD24
  | 25 => paD25
  | 26 => paD26
  | 27 => paD27
  | 28 => paD28
  | 29 => paD29
  | 30 => paD30
  | 31 => paD31
  | _ => paD32
def pchS : Nat → ByteArray
  | 0 => paS0
  | 1 => paS1
  | 2 => paS2
  | 3 => paS3
  | 4 => paS4
  | 5 => paS5
  | 6 => paS6
  | 7 => paS7
  | 8 => paS8
  | 9 => paS9
  | 10 => paS10
  | 11 => paS11
  | 12 => paS12
  | 13 => paS13
  | 14 => paS14
  | 15 => paS15
  | 16 => paS16
  | 17 => paS17
  | 18 => paS18
  | 19 => paS19
  | 20 => paS20
  | 21 => paS21
  | 22 => paS22
  | 23 => paS23
  | 24 => paS24
  | 25 => paS25
  | 26 => paS26
  | 27 => paS27
  | 28 => paS28
  | 29 => paS29
  | 30 => paS30
  | 31 => paS31
  | _ => paS32
def pchE : Nat → Int
  | 0 => 0
  | 1 => 0
  | 2 => 0
  | 3 => 0
  | 4 => 6
  | 5 => 6
  | 6 => 0
  | 7 => 6
  | 8 => 0
  | 9 => 6
  | 10 => 5
  | 11 => 5
  | 12 => 5
  | 13 => 5
  | 14 => 5
  | 15 => 5
  | 16 => 5
  | 17 => 5
  | 18 => 5
  | 19 => 5
  | 20 => 5
  | 21 => 5
  | 22 => 5
  | 23 => 5
  | 24 => 5
  | 25 => 5
  | 26 => 5
  | 27 => 0
  | 28 => 5
  | 29 => 5
  | 30 => 5
  | 31 => 1
  | _ => 2
def pchP : Nat → Int
  | 0 => 0
  | 1 => 0
  | 2 => 0
  | 3 => 0
  | 4 => 0
  | 5 => 0
  | 6 => 0
  | 7 => 0
  | 8 => 0
  | 9 => 0
  | 10 => 1
  | 11 => 1
  | 12 => 2
  | 13 => 1
  | 14 => 1
  | 15 => 1
  | 16 => 1
  | 17 => 1
  | 18 => 1
  | 19 => 1
  | 20 => 1
  | 21 => 1
  | 22 => 1
  | 23 => 1
  | 24 => 1
  | 25 => 1
  | 26 => 1
  | 27 => 0
  | 28 => 1
  | 29 => 1
  | 30 => 643
  | 31 => 0
  | _ => 0
theorem lot_all : ∀ k, k < 13 → showT (lotS k) = .returned (.tuple #[.string (lotT k), .int .i64 0, .int .i64 0])
  | 0, _ => show_of lt0
  | 1, _ => show_of lt1
  | 2, _ => show_of lt2
  | 3, _ => show_of lt3
  | 4, _ => show_of lt4
  | 5, _ => show_of lt5
  | 6, _ => show_of lt6
  | 7, _ => show_of lt7
  | 8, _ => show_of lt8
  | 9, _ => show_of lt9
  | 10, _ => show_of lt10
  | 11, _ => show_of lt11
  | 12, _ => show_of lt12
  | n + 13, h => absurd h (by omega)
theorem par_all : ∀ k, k < 14 → distT (parA k) (parB k) = ((parD k : Int), 0) ∧ distT (parB k) (parA k) = ((parD k : Int), 0)
  | 0, _ => pr0
  | 1, _ => pr1
  | 2, _ => pr2
  | 3, _ => pr3
  | 4, _ => pr4
  | 5, _ => pr5
  | 6, _ => pr6
  | 7, _ => pr7
  | 8, _ => pr8
  | 9, _ => pr9
  | 10, _ => pr10
  | 11, _ => pr11
  | 12, _ => pr12
  | 13, _ => pr13
  | n + 14, h => absurd h (by omega)
theorem pat_of {a d S : ByteArray} {E P : Int} (he : patF a d = (S, E, P)) {s : ByteArray} {c p : Int} (h : PatchOut a d s c p) : s = S ∧ c = E ∧ p = P := by
  rw [patF_of h] at he
  simp only [Prod.mk.injEq] at he
  exact he
theorem pch_all : ∀ k, k < 33 → ∀ {s : ByteArray} {c p : Int}, PatchOut (pchA k) (pchD k) s c p → s = pchS k ∧ c = pchE k ∧ p = pchP k
  | 0, _ => fun h => pat_of pa0 h
  | 1, _ => fun h => pat_of pa1 h
  | 2, _ => fun h => pat_of pa2 h
  | 3, _ => fun h => pat_of pa3 h
  | 4, _ => fun h => pat_of pa4 h
  | 5, _ => fun h => pat_of pa5 h
  | 6, _ => fun h => pat_of pa6 h
  | 7, _ => fun h => pat_of pa7 h
  | 8, _ => fun h => pat_of pa8 h
  | 9, _ => fun h => pat_of pa9 h
  | 10, _ => fun h => pat_of pa10 h
  | 11, _ => fun h => pat_of pa11 h
  | 12, _ => fun h => pat_of pa12 h
  | 13, _ => fun h => pat_of pa13 h
  | 14, _ => fun h => pat_of pa14 h
  | 15, _ => fun h => pat_of pa15 h
  | 16, _ => fun h => pat_of pa16 h
  | 17, _ => fun h => pat_of pa17 h
  | 18, _ => fun h => pat_of pa18 h
  | 19, _ => fun h => pat_of pa19 h
  | 20, _ => fun h => pat_of pa20 h
  | 21, _ => fun h => pat_of pa21 h
  | 22, _ => fun h => pat_of pa22 h
  | 23, _ => fun h => pat_of pa23 h
  | 24, _ => fun h => pat_of pa24 h
  | 25, _ => fun h => pat_of pa25 h
  | 26, _ => fun h => pat_of pa26 h
  | 27, _ => fun h => pat_of pa27 h
  | 28, _ => fun h => pat_of pa28 h
  | 29, _ => fun h => pat_of pa29 h
  | 30, _ => fun h => pa30 h
  | 31, _ => fun h => pa31 h
  | 32, _ => fun h => pat_of pa32 h
  | n + 33, h => absurd h (by omega)
def lotC : Array Value := #[.string ltS0, .string ltT0, .string ltS1, .string ltT1, .string ltS2, .string ltT2, .string ltS3, .string ltT3, .string ltS4, .string ltT4, .string ltS5, .string ltT5, .string ltS6, .string ltT6, .string ltS7, .string ltT7, .string ltS8, .string ltT8, .string ltS9, .string ltT9, .string ltS10, .string ltT10, .string ltS11, .string ltT11, .string ltS12, .string ltT12]
def parC : Array Value := #[.string prA0, .string prB0, .int .i64 1, .string prA1, .string prB1, .int .i64 2, .string prA2, .string prB2, .int .i64 3, .string prA3, .string prB3, .int .i64 2, .string prA4, .string prB4, .int .i64 5, .string prA5, .string prB5, .int .i64 8, .string prA6, .string prB6, .int .i64 2, .string prA7, .string prB7, .int .i64 1, .string prA8, .string prB8, .int .i64 2, .string prA9, .string prB9, .int .i64 6, .string prA10, .string prB10, .int .i64 8, .string prA11, .string prB11, .int .i64 2, .string prA12, .string prB12, .int .i64 2, .string prA13, .string prB13, .int .i64 6]
def pchV (x y : ByteArray) : Array Value := #[.string paA0, .string paD0, .string paS0, .int .i64 0, .int .i64 0, .string paA1, .string paD1, .string paS1, .int .i64 0, .int .i64 0, .string paA2, .string paD2, .string paS2, .int .i64 0, .int .i64 0, .string paA3, .string paD3, .string paS3, .int .i64 0, .int .i64 0, .string paA4, .string paD4, .string paS4, .int .i64 6, .int .i64 0, .string paA5, .string paD5, .string paS5, .int .i64 6, .int .i64 0, .string paA6, .string paD6, .string paS6, .int .i64 0, .int .i64 0, .string paA7, .string paD7, .string paS7, .int .i64 6, .int .i64 0, .string paA8, .string paD8, .string paS8, .int .i64 0, .int .i64 0, .string paA9, .string paD9, .string paS9, .int .i64 6, .int .i64 0, .string paA10, .string paD10, .string paS10, .int .i64 5, .int .i64 1, .string paA11, .string paD11, .string paS11, .int .i64 5, .int .i64 1, .string paA12, .string paD12, .string paS12, .int .i64 5, .int .i64 2, .string paA13, .string paD13, .string paS13, .int .i64 5, .int .i64 1, .string paA14, .string paD14, .string paS14, .int .i64 5, .int .i64 1, .string paA15, .string paD15, .string paS15, .int .i64 5, .int .i64 1, .string paA16, .string paD16, .string paS16, .int .i64 5, .int .i64 1, .string paA17, .string paD17, .string paS17, .int .i64 5, .int .i64 1, .string paA18, .string paD18, .string paS18, .int .i64 5, .int .i64 1, .string paA19, .string paD19, .string paS19, .int .i64 5, .int .i64 1, .string paA20, .string paD20, .string paS20, .int .i64 5, .int .i64 1, .string paA21, .string paD21, .string paS21, .int .i64 5, .int .i64 1, .string paA22, .string paD22, .string paS22, .int .i64 5, .int .i64 1, .string paA23, .string paD23, .string paS23, .int .i64 5, .int .i64 1, .string paA24, .string paD24, .string paS24, .int .i64 5, .int .i64 1, .string paA25, .string paD25, .string paS25, .int .i64 5, .int .i64 1, .string paA26, .string paD26, .string paS26, .int .i64 5, .int .i64 1, .string paA27, .string paD27, .string paS27, .int .i64 0, .int .i64 0, .string paA28, .string paD28, .string paS28, .int .i64 5, .int .i64 1, .string paA29, .string paD29, .string paS29, .int .i64 5, .int .i64 1, .string paA30, .string x, .string paS30, .int .i64 5, .int .i64 643, .string paA31, .string y, .string paS31, .int .i64 1, .int .i64 0, .string paA32, .string paD32, .string paS32, .int .i64 2, .int .i64 0]
def pchC : Array Value := pchV paD30 paD31
theorem lot_cells : ∀ k, k < 13 → lotC[k * 2]? = some (.string (lotS k)) ∧ lotC[k * 2 + 1]? = some (.string (lotT k))
  | 0, _ => ⟨rfl, rfl⟩
  | 1, _ => ⟨rfl, rfl⟩
  | 2, _ => ⟨rfl, rfl⟩
  | 3, _ => ⟨rfl, rfl⟩
  | 4, _ => ⟨rfl, rfl⟩
  | 5, _ => ⟨rfl, rfl⟩
  | 6, _ => ⟨rfl, rfl⟩
  | 7, _ => ⟨rfl, rfl⟩
  | 8, _ => ⟨rfl, rfl⟩
  | 9, _ => ⟨rfl, rfl⟩
  | 10, _ => ⟨rfl, rfl⟩
  | 11, _ => ⟨rfl, rfl⟩
  | 12, _ => ⟨rfl, rfl⟩
  | n + 13, h => absurd h (by omega)
theorem par_cells_ : ∀ k, k < 14 → parC[k * 3]? = some (.string (parA k)) ∧ parC[k * 3 + 1]? = some (.string (parB k)) ∧ parC[k * 3 + 2]? = some (.int .i64 (parD k : Int))
  | 0, _ => ⟨rfl, rfl, rfl⟩
  | 1, _ => ⟨rfl, rfl, rfl⟩
  | 2, _ => ⟨rfl, rfl, rfl⟩
  | 3, _ => ⟨rfl, rfl, rfl⟩
  | 4, _ => ⟨rfl, rfl, rfl⟩
  | 5, _ => ⟨rfl, rfl, rfl⟩
  | 6, _ => ⟨rfl, rfl, rfl⟩
  | 7, _ => ⟨rfl, rfl, rfl⟩
  | 8, _ => ⟨rfl, rfl, rfl⟩
  | 9, _ => ⟨rfl, rfl, rfl⟩
  | 10, _ => ⟨rfl, rfl, rfl⟩
  | 11, _ => ⟨rfl, rfl, rfl⟩
  | 12, _ => ⟨rfl, rfl, rfl⟩
  | 13, _ => ⟨rfl, rfl, rfl⟩
  | n + 14, h => absurd h (by omega)
theorem pch_cells : ∀ k, k < 33 → pchC[k * 5]? = some (.string (pchA k)) ∧ pchC[k * 5 + 1]? = some (.string (pchD k)) ∧ pchC[k * 5 + 2]? = some (.string (pchS k)) ∧ pchC[k * 5 + 3]? = some (.int .i64 (pchE k)) ∧ pchC[k * 5 + 4]? = some (.int .i64 (pchP k))
  | 0, _ => ⟨rfl, rfl, rfl, rfl, rfl⟩
  | 1, _ => ⟨rfl, rfl, rfl, rfl, rfl⟩
  | 2, _ => ⟨rfl, rfl, rfl, rfl, rfl⟩
  | 3, _ => ⟨rfl, rfl, rfl, rfl, rfl⟩
  | 4, _ => ⟨rfl, rfl, rfl, rfl, rfl⟩
  | 5, _ => ⟨rfl, rfl, rfl, rfl, rfl⟩
  | 6, _ => ⟨rfl, rfl, rfl, rfl, rfl⟩
  | 7, _ => ⟨rfl, rfl, rfl, rfl, rfl⟩
  | 8, _ => ⟨rfl, rfl, rfl, rfl, rfl⟩
  | 9, _ => ⟨rfl, rfl, rfl, rfl, rfl⟩
  | 10, _ => ⟨rfl, rfl, rfl, rfl, rfl⟩
  | 11, _ => ⟨rfl, rfl, rfl, rfl, rfl⟩
  | 12, _ => ⟨rfl, rfl, rfl, rfl, rfl⟩
  | 13, _ => ⟨rfl, rfl, rfl, rfl, rfl⟩
  | 14, _ => ⟨rfl, rfl, rfl, rfl, rfl⟩
  | 15, _ => ⟨rfl, rfl, rfl, rfl, rfl⟩
  | 16, _ => ⟨rfl, rfl, rfl, rfl, rfl⟩
  | 17, _ => ⟨rfl, rfl, rfl, rfl, rfl⟩
  | 18, _ => ⟨rfl, rfl, rfl, rfl, rfl⟩
  | 19, _ => ⟨rfl, rfl, rfl, rfl, rfl⟩
  | 20, _ => ⟨rfl, rfl, rfl, rfl, rfl⟩
  | 21, _ => ⟨rfl, rfl, rfl, rfl, rfl⟩
  | 22, _ => ⟨rfl, rfl, rfl, rfl, rfl⟩
  | 23, _ => ⟨rfl, rfl, rfl, rfl, rfl⟩
  | 24, _ => ⟨rfl, rfl, rfl, rfl, rfl⟩
  | 25, _ => ⟨rfl, rfl, rfl, rfl, rfl⟩
  | 26, _ => ⟨rfl, rfl, rfl, rfl, rfl⟩
  | 27, _ => ⟨rfl, rfl, rfl, rfl, rfl⟩
  | 28, _ => ⟨rfl, rfl, rfl, rfl, rfl⟩
  | 29, _ => ⟨rfl, rfl, rfl, rfl, rfl⟩
  | 30, _ => ⟨rfl, rfl, rfl, rfl, rfl⟩
  | 31, _ => ⟨rfl, rfl, rfl, rfl, rfl⟩
  | 32, _ => ⟨rfl, rfl, rfl, rfl, rfl⟩
  | n + 33, h => absurd h (by omega)

end Go.Proofs.Ytdaneedflpfeaaa
