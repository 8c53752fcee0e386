import Derived.Test.YtdaneedflpfeaaaGreatDoorDifH
import Derived.Test.YtdaneedflpfeaaaGreatDoorDifD
import Derived.Test.YtdaneedflpfeaaaGreatDoorOutShow
import Derived.Test.YtdaneedflpfeaaaGreatDoorDistI
namespace Go.Proofs.YtdaneedflpfeaaaGreatDoor
set_option maxRecDepth 100000
open Go.RowKit

set_option maxHeartbeats 1600000 in
theorem parentOf_any (M : List Nd) (k g cap : Nat) (w : World) (hl : M.length ≤ 1000000) (hk : k < M.length) (hn : NA w g 0 M) :
    Calls Tryz.prog 61 #[.slice (some ⟨g, 0, none⟩) M.length cap, .int .i64 (k : Int)] w fun e w' => e = .returned (.int .i64 (parN M k : Int)) ∧ Below w.heap.size w w' := by
  have HN := hide hn
  have hgl := hn.lt
  obtain ⟨y, hy⟩ : ∃ y, M[k]? = some y := ⟨_, List.getElem?_eq_getElem hk⟩
  have HS : Hid (parN M k = parG M y.depth k) := by show parN M k = _; rw [parN, dpt, hy]
  have HY := hide hy
  clear hn hy
  go_enter Tryz.func61, Tryz.ntmps61
  go_wp2_with fail
  go_loopw [5] (fun i wr => ∃ p : Nat, p ≤ k ∧ i = .int .i64 p ∧ Hid (parG M y.depth p = parG M y.depth k) ∧ Below w.heap.size w wr) (fun i _ => (intOf i).toNat)
  case atStart => exact ⟨k, Nat.le_refl _, rfl, rfl, Below.refl _ _⟩
  case round =>
    obtain ⟨p, hp, rfl, HE, hB⟩ := hrel
    have hna := (unhide HN).below hB hgl
    obtain ⟨_, _, k2⟩ := hna.cell0 (unhide HY)
    have HB := hide hB
    by_cases hp0 : p = 0
    · subst hp0
      have HE2 : Hid (parG M y.depth k = 0) := by show _ = _; rw [← unhide HE, parG]
      clear hna hB HE
      go_wp2_with fail
      go_quiet (fail)
      go_wp2_with fail
      go_ret
      exact ⟨ret_int (by rw [unhide HS, unhide HE2]), (unhide HB).trans (below_drewN' _ _ _)⟩
    · obtain ⟨q, rfl⟩ : ∃ q, p = q + 1 := ⟨p - 1, by omega⟩
      have hlt : q + 1 < M.length := by omega
      have hx : M[q + 1]? = some M[q + 1] := List.getElem?_eq_getElem hlt
      obtain ⟨_, _, e2⟩ := hna.cell0 hx
      have HG : Hid (parG M y.depth (q + 1) = if y.depth ≤ (M[q + 1]).depth then parG M y.depth q else q + 1) := by show _ = _; rw [parG, hx]
      clear hna hB hx
      by_cases hd : y.depth ≤ (M[q + 1]).depth
      · have HE2 : Hid (parG M y.depth q = parG M y.depth k) := by show _ = _; rw [← unhide HE, unhide HG, if_pos hd]
        clear HG HE
        generalize (M[q + 1]'hlt) = x at *
        go_wp2_with fail
        go_quiet (fail)
        go_wp2_with fail
        go_roundw
        case rel => exact ⟨q, by omega, by go_num, HE2, (unhide HB).trans (below_drewN' _ _ _)⟩
        case measure => simp [intOf]
      · have HE2 : Hid (parG M y.depth k = q + 1) := by show _ = _; rw [← unhide HE, unhide HG, if_neg hd]
        clear HG HE
        generalize (M[q + 1]'hlt) = x at *
        go_wp2_with fail
        go_quiet (fail)
        go_wp2_with fail
        go_ret
        exact ⟨ret_int (by rw [unhide HS, unhide HE2]; omega), (unhide HB).trans (below_drewN' _ _ _)⟩

theorem cntD_le (D : Int) (l : List Nd) : cntD D l ≤ l.length := List.countP_le_length
theorem sg_snoc {M : List Nd} {a b : Nat} {x : Nd} (h : a ≤ b) (hx : M[b]? = some x) : Dist.sg M a (b + 1) = Dist.sg M a b ++ [x] := by
  rw [Dist.sg_app M a b (b + 1) h (by omega), Dist.sg_cons M b (b + 1) x (by omega) hx, Dist.sg_self]

set_option maxHeartbeats 1600000 in
theorem siblings_any (M : List Nd) (p k g cap : Nat) (y : Nd) (w : World) (hl : M.length ≤ 1000000) (hk : k < M.length) (hp : p < k) (hy : M[k]? = some y) (hn : NA w g 0 M) :
    Calls Tryz.prog 62 #[.slice (some ⟨g, 0, none⟩) M.length cap, .int .i64 (p : Int), .int .i64 (k : Int)] w fun e w' => e = .returned (.int .i64 (cntD y.depth (Dist.sg M (p + 1) k) : Int)) ∧ Below w.heap.size w w' := by
  have HN := hide hn
  have hgl := hn.lt
  have HY := hide hy
  clear hn hy
  go_enter Tryz.func62, Tryz.ntmps62
  go_wp2_with fail
  go_loopw [7, 8] (fun c i wr => ∃ a : Nat, p + 1 ≤ a ∧ a ≤ k ∧ i = .int .i64 a ∧ c = .int .i64 (cntD y.depth (Dist.sg M (p + 1) a) : Int) ∧ Below w.heap.size w wr) (fun _ i _ => k - (intOf i).toNat)
  case atStart => exact ⟨p + 1, Nat.le_refl _, by omega, by go_num, by rw [Dist.sg_self]; rfl, Below.refl _ _⟩
  case round =>
    obtain ⟨a, ha1, ha2, rfl, rfl, hB⟩ := hrel
    have hna := (unhide HN).below hB hgl
    obtain ⟨_, _, k2⟩ := hna.cell0 (unhide HY)
    have HB := hide hB
    have hcl : cntD y.depth (Dist.sg M (p + 1) a) ≤ 1000000 := by have := cntD_le y.depth (Dist.sg M (p + 1) a); rw [Dist.sg_len _ _ _ (by omega)] at this; omega
    by_cases hlt : a < k
    · have hx : M[a]? = some M[a] := List.getElem?_eq_getElem (by omega)
      obtain ⟨_, _, e2⟩ := hna.cell0 hx
      have HC : Hid (cntD y.depth (Dist.sg M (p + 1) (a + 1)) = cntD y.depth (Dist.sg M (p + 1) a) + if (M[a]).depth = y.depth then 1 else 0) := by
        show _ = _
        rw [sg_snoc ha1 hx, cntD_app]
        congr 1
        simp [cntD, List.countP_cons]
      clear hna hB hx
      by_cases hd : (M[a]).depth = y.depth
      · have HC2 : Hid (cntD y.depth (Dist.sg M (p + 1) (a + 1)) = cntD y.depth (Dist.sg M (p + 1) a) + 1) := by show _ = _; rw [unhide HC, if_pos hd]
        have hd' : ((M[a]).depth == y.depth) = true := by simp [hd]
        clear HC hd
        generalize cntD y.depth (Dist.sg M (p + 1) a) = c at *
        generalize (M[a]'(by omega)) = x at *
        go_wp2_with fail
        go_quiet (fail)
        go_wp2_with fail
        go_roundw
        case rel => exact ⟨a + 1, by omega, by omega, by go_num, by rw [unhide HC2]; go_num, (unhide HB).trans (below_drewN' _ _ _)⟩
        case measure => simp [intOf]; omega
      · have HC2 : Hid (cntD y.depth (Dist.sg M (p + 1) (a + 1)) = cntD y.depth (Dist.sg M (p + 1) a)) := by show _ = _; rw [unhide HC, if_neg hd]; rfl
        have hd' : ((M[a]).depth == y.depth) = false := by simp [hd]
        clear HC hd
        generalize cntD y.depth (Dist.sg M (p + 1) a) = c at *
        generalize (M[a]'(by omega)) = x at *
        go_wp2_with fail
        go_quiet (fail)
        go_wp2_with fail
        go_roundw
        case rel => exact ⟨a + 1, by omega, by omega, by go_num, by rw [unhide HC2], (unhide HB).trans (below_drewN' _ _ _)⟩
        case measure => simp [intOf]; omega
    · have hak : a = k := by omega
      subst hak
      clear hna hB
      go_wp2_with fail
      go_ret
      exact ⟨rfl, unhide HB⟩

set_option maxHeartbeats 1600000 in
theorem upper_any (M : List Nd) (mt : Nat → Nat) (l nL gF nF gT gf cf gt ct ge ce gu cu gb cb : Nat) (w : World) (hMl : M.length ≤ 1000) (hl : l < M.length) (hte : IA w gu M.length (subE M)) (hT : w.rowIs gT 3 M.length (intsF mt)) :
    Calls Tryz.prog 63 #[parV gF nF gT M.length, cmpV gf cf nL gt ct M.length ge ce gu cu gb cb, .int .i64 (l : Int)] w fun e w' => e = .returned (.int .i64 (upN M mt (l + 1) (subE M l) : Int)) ∧ Below w.heap.size w w' := by
  have hs := subE_le hl
  have HKEY : Hid (∀ wq, Below (w.heap.size + 2) ((w.alloc (parO gF nF gT M.length)).alloc (cmpO gf cf nL gt ct M.length ge ce gu cu gb cb)) wq → wq.cell? ⟨w.heap.size, 1, none⟩ = some (.slice (some ⟨gT, 0, none⟩) M.length M.length) ∧ wq.cell? ⟨w.heap.size + 1, 3, none⟩ = some (.slice (some ⟨gu, 0, none⟩) M.length cu) ∧ IA wq gu M.length (subE M) ∧ wq.rowIs gT 3 M.length (intsF mt) ∧ Below w.heap.size w wq) := fun wq hq => by
    obtain ⟨h1, h2, h3⟩ := two_boxes hq
    obtain ⟨_, _, _, c3, _⟩ := cmp_cells h2
    exact ⟨(par_cells h1).2, c3, hte.below h3 hte.lt, hT.of_block (h3.block _ hT.lt), h3⟩
  clear hte hT
  unfold parO cmpO at HKEY
  unfold parV cmpV
  have HB0 := hide (Below.refl (w.heap.size + 2) ((w.alloc (.cells #[.slice (some ⟨gF, 0, none⟩) nF nF, .slice (some ⟨gT, 0, none⟩) M.length M.length] 70 (0, 0))).alloc (.cells #[.slice (some ⟨gf, 0, none⟩) nL cf, .slice (some ⟨gt, 0, none⟩) M.length ct, .slice (some ⟨ge, 0, none⟩) nL ce, .slice (some ⟨gu, 0, none⟩) M.length cu, .slice (some ⟨gb, 0, none⟩) nL cb] 67 (0, 0))))
  go_enter Tryz.func63, Tryz.ntmps63
  go_wp2_with fail
  generalize ((w.alloc (.cells #[.slice (some ⟨gF, 0, none⟩) nF nF, .slice (some ⟨gT, 0, none⟩) M.length M.length] 70 (0, 0))).alloc (.cells #[.slice (some ⟨gf, 0, none⟩) nL cf, .slice (some ⟨gt, 0, none⟩) M.length ct, .slice (some ⟨ge, 0, none⟩) nL ce, .slice (some ⟨gu, 0, none⟩) M.length cu, .slice (some ⟨gb, 0, none⟩) nL cb] 67 (0, 0))) = W0 at *
  go_loopw [7, 8] (fun c i wr => ∃ a n : Nat, l < a ∧ a ≤ subE M l ∧ i = .int .i64 (a : Int) ∧ c = .int .i64 (n : Int) ∧ n ≤ a ∧ Hid (n + upN M mt a (subE M l) = upN M mt (l + 1) (subE M l)) ∧ Below (w.heap.size + 2) W0 wr) (fun _ i _ => subE M l - (intOf i).toNat)
  case atStart => exact ⟨l + 1, 0, by omega, by omega, by go_num, rfl, by omega, Nat.zero_add _, unhide HB0⟩
  case round =>
    obtain ⟨a, n, ha1, ha2, rfl, rfl, hn, HE, hB⟩ := hrel
    obtain ⟨c1, c3, hte, hT, _⟩ := unhide HKEY _ hB
    have i1 := hte.at_ l hl
    have HB := hide hB
    clear hB
    by_cases hlt : a < subE M l
    · have i2 := hte.at_ a (by omega)
      have i3 := hT.cell (i := a) (by omega)
      unfold intsF at i3
      have HU := hide (upN.eq_1 M mt a (subE M l))
      have hsa := subE_le (l := M) (k := a) (by omega)
      have hin := (subE_sub (l := M) (k := a) (by omega)).inside (subE_sub hl) ha1 hlt
      clear hte hT
      by_cases hz : mt a = 0
      · rw [hz] at i3
        have HE2 : Hid (n + upN M mt (a + 1) (subE M l) = upN M mt (l + 1) (subE M l)) := by show _ = _; rw [← unhide HE, unhide HU, dif_pos hlt, if_pos hz]
        clear HU HE hz
        go_wp2_with fail
        go_roundw
        case rel => exact ⟨a + 1, n, by omega, by omega, by go_num, rfl, by omega, HE2, unhide HB⟩
        case measure => simp [intOf]; omega
      · have hz' : (((mt a : Nat) : Int) == 0) = false := by simp; omega
        have HE2 : Hid (n + 1 + upN M mt (subE M a) (subE M l) = upN M mt (l + 1) (subE M l)) := by show _ = _; rw [← unhide HE, unhide HU, dif_pos hlt, if_neg hz, dif_pos (by omega)]; omega
        clear HU HE hz
        generalize subE M a = z at *
        go_wp2_with fail
        go_roundw
        case rel => exact ⟨z, n + 1, by omega, by omega, rfl, by go_num, by omega, HE2, unhide HB⟩
        case measure => simp [intOf]; omega
    · have HE2 : Hid (upN M mt (l + 1) (subE M l) = n) := by show _ = _; rw [← unhide HE, upN, dif_neg hlt]; omega
      clear hte hT HE
      go_wp2_with fail
      go_ret
      exact ⟨ret_int (by rw [unhide HE2]), (unhide HKEY _ (unhide HB)).2.2.2.2⟩

end Go.Proofs.YtdaneedflpfeaaaGreatDoor

namespace Go.Proofs.YtdaneedflpfeaaaGreatDoor
set_option maxRecDepth 100000
open Go.RowKit

/-! ## A number's digits, a step's line -/
def digs : ByteArray := ⟨#[48, 49, 50, 51, 52, 53, 54, 55, 56, 57, 97, 98, 99, 100, 101, 102, 103, 104, 105, 106, 107, 108, 109, 110, 111, 112, 113, 114, 115, 116, 117, 118, 119, 120, 121, 122]⟩
theorem digs_at : ∀ i : Fin 10, (digs.data.toList.drop i.val).take 1 = [UInt8.ofNat (48 + i.val)] := by decide +kernel
def twos : ByteArray := ⟨#[48, 48, 48, 49, 48, 50, 48, 51, 48, 52, 48, 53, 48, 54, 48, 55, 48, 56, 48, 57, 49, 48, 49, 49, 49, 50, 49, 51, 49, 52, 49, 53, 49, 54, 49, 55, 49, 56, 49, 57, 50, 48, 50, 49, 50, 50, 50, 51, 50, 52, 50, 53, 50, 54, 50, 55, 50, 56, 50, 57, 51, 48, 51, 49, 51, 50, 51, 51, 51, 52, 51, 53, 51, 54, 51, 55, 51, 56, 51, 57, 52, 48, 52, 49, 52, 50, 52, 51, 52, 52, 52, 53, 52, 54, 52, 55, 52, 56, 52, 57, 53, 48, 53, 49, 53, 50, 53, 51, 53, 52, 53, 53, 53, 54, 53, 55, 53, 56, 53, 57, 54, 48, 54, 49, 54, 50, 54, 51, 54, 52, 54, 53, 54, 54, 54, 55, 54, 56, 54, 57, 55, 48, 55, 49, 55, 50, 55, 51, 55, 52, 55, 53, 55, 54, 55, 55, 55, 56, 55, 57, 56, 48, 56, 49, 56, 50, 56, 51, 56, 52, 56, 53, 56, 54, 56, 55, 56, 56, 56, 57, 57, 48, 57, 49, 57, 50, 57, 51, 57, 52, 57, 53, 57, 54, 57, 55, 57, 56, 57, 57]⟩
theorem twos_at : ∀ i : Fin 100, (twos.data.toList.drop (i.val * 2)).take 2 = [UInt8.ofNat (48 + i.val / 10), UInt8.ofNat (48 + i.val % 10)] := by decide +kernel

set_option maxHeartbeats 1600000 in
theorem small_any (i : Nat) (hi : i < 100) (w : World) : Calls Tryz.prog 131 #[.int .i64 (i : Int)] w fun e w' => e = .returned (.string (mk (Lib.decDigits i))) ∧ w' = w := by
  go_enter Tryz.func131, Tryz.ntmps131
  by_cases h : i < 10
  · go_wp2_with fail
    go_ret
    refine ⟨ret_str ?_, rfl⟩
    rw [ext_mk, Lib.decDigits_one h, ← digs_at ⟨i, h⟩]
    show mk _ = mk _
    congr 1
    simp only [Nat.add_sub_cancel_left]
    rfl
  · go_wp2_with fail
    go_ret
    refine ⟨ret_str ?_, rfl⟩
    rw [ext_mk, Lib.decDigits_two h hi, ← twos_at ⟨i, hi⟩]
    congr 1
    simp only [Nat.add_sub_cancel_left]
    rfl

set_option maxHeartbeats 1600000 in
theorem formatInt_any (i : Nat) (hi : i < 100) (w : World) : Calls Tryz.prog 122 #[.int .i64 (i : Int), .int .i64 10] w fun e w' => e = .returned (.string (mk (Lib.decDigits i))) ∧ w' = w := by
  go_enter Tryz.func122, Tryz.ntmps122
  go_wp2_with fail
  refine (small_any i hi _).mono ?_
  rintro e w1 ⟨rfl, hw⟩; have hw := hw.symm; subst hw
  go_wp2_with fail
  go_ret
  exact ⟨rfl, rfl⟩

set_option maxHeartbeats 1600000 in
theorem itoaI_any (i : Nat) (hi : i < 100) (w : World) : Calls Tryz.prog 110 #[.int .i64 (i : Int)] w fun e w' => e = .returned (.string (mk (Lib.decDigits i))) ∧ w' = w := by
  go_enter Tryz.func110, Tryz.ntmps110
  go_wp2_with fail
  refine (formatInt_any i hi _).mono ?_
  rintro e w1 ⟨rfl, hw⟩; have hw := hw.symm; subst hw
  go_wp2_with fail
  go_ret
  exact ⟨rfl, rfl⟩

set_option maxHeartbeats 1600000 in
theorem itoa_any (i : Nat) (hi : i < 100) (w : World) : Calls Tryz.prog 92 #[.int .i64 (i : Int)] w fun e w' => e = .returned (.string (mk (Lib.decDigits i))) ∧ w' = w := by
  go_enter Tryz.func92, Tryz.ntmps92
  go_wp2_with fail
  refine (itoaI_any i hi _).mono ?_
  rintro e w1 ⟨rfl, hw⟩; have hw := hw.symm; subst hw
  go_wp2_with fail
  go_ret
  exact ⟨rfl, rfl⟩

/-- A step, boxed. -/
def stO (kd : ByteArray) (x y z : Int) (b : Bool) (t : ByteArray) (d : Int) : Obj := .cells #[.string kd, .int .i64 x, .int .i64 y, .int .i64 z, .bool b, .string t, .int .i64 d] 97 (0, 0)

/-- What line reads of its step. -/
abbrev StS (b : Nat) (kd : ByteArray) (x y z : Int) (bb : Bool) (t : ByteArray) (d : Int) (wq : World) : Prop :=
  wq.cell? ⟨b, 0, none⟩ = some (.string kd) ∧ wq.cell? ⟨b, 1, none⟩ = some (.int .i64 x) ∧ wq.cell? ⟨b, 2, none⟩ = some (.int .i64 y) ∧ wq.cell? ⟨b, 3, none⟩ = some (.int .i64 z) ∧
  wq.cell? ⟨b, 4, none⟩ = some (.bool bb) ∧ wq.cell? ⟨b, 5, none⟩ = some (.string t) ∧ wq.cell? ⟨b, 6, none⟩ = some (.int .i64 d)
theorem st_seven {wq : World} {b : Nat} {kd : ByteArray} {x y z : Int} {bb : Bool} {t : ByteArray} {d : Int} (h : wq.heap[b]? = some (stO kd x y z bb t d)) : StS b kd x y z bb t d wq := by
  unfold stO at h
  refine ⟨?_, ?_, ?_, ?_, ?_, ?_, ?_⟩ <;> (rw [cell_of_row wq b _ _ _ (0, 0) h]; rfl)

set_option maxHeartbeats 1600000 in
theorem line_del (k : Nat) (hk : k < 100) (w : World) :
    Calls Tryz.prog 59 #[.agg #[.string ⟨#[100]⟩, .int .i64 (k : Int), .int .i64 0, .int .i64 0, .bool false, .string ⟨#[]⟩, .int .i64 0]] w fun e w' => e = .returned (.string (mk (lineT (.del k) ++ [10]))) ∧ Below w.heap.size w w' := by
  have HE : Hid ((⟨#[100]⟩ : ByteArray) ++ ⟨#[32]⟩ ++ mk (Lib.decDigits k) ++ ⟨#[10]⟩ = mk (lineT (.del k) ++ [10])) := by
    show mk [100] ++ mk [32] ++ mk (Lib.decDigits k) ++ mk [10] = _
    rw [mk_append, mk_append, mk_append]; rfl
  have HL : (mk (Lib.decDigits k)).size ≤ 2 := by rw [mk_size]; exact (dec_read hk).2.2
  have HI := hide (fun w1 => itoa_any k hk w1)
  have HS0 := hide (st_seven (heap_alloc_new w (stO ⟨#[100]⟩ (k : Int) 0 0 false ⟨#[]⟩ 0)))
  clear hk
  unfold stO at *
  generalize mk (Lib.decDigits k) = dk at *
  generalize mk (lineT (.del k) ++ [10]) = R at *
  have hA : ∀ wx, (Op.stringOp .add (⟨#[100, 32]⟩ : ByteArray) dk).run Tryz.prog wx = .ok (.string ((⟨#[100, 32]⟩ : ByteArray) ++ dk)) wx := fun wx => run_string_add_sum wx _ _ (by show 2 + dk.size ≤ _; omega)
  have hA2 : ∀ wx, (Op.stringOp .add ((⟨#[100]⟩ : ByteArray) ++ ⟨#[32]⟩) dk).run Tryz.prog wx = .ok (.string ((⟨#[100]⟩ : ByteArray) ++ ⟨#[32]⟩ ++ dk)) wx := fun wx => run_string_add_sum wx _ _ (by show 2 + dk.size ≤ _; omega)
  go_enter Tryz.func59, Tryz.ntmps59
  go_wp2_with fail
  go_region_held3 (StS w.heap.size ⟨#[100]⟩ (k : Int) 0 0 false ⟨#[]⟩ 0) (exact unhide HS0) (first | (go_at_call 92; refine (unhide HI _).mono ?_; rintro e w1 ⟨rfl, hw⟩; have hw := hw.symm; subst hw))
  all_goals (obtain ⟨c0, c1, c2, c3, c4, c5, c6⟩ := unhide HS0)
  all_goals go_wp2_with fail
  all_goals go_ret
  all_goals exact ⟨ret_str (unhide HE), by first | exact (Below.refl _ _).alloc (Nat.le_refl _) _ | exact ((Below.refl _ _).alloc (Nat.le_refl _) _).trans (below_drewN' _ _ _)⟩

theorem line_key (w : World) (o : Obj) {b : Nat} {kd : ByteArray} {x y z : Int} {bb : Bool} {t : ByteArray} {d : Int} (hb : b = w.heap.size) (ho : o = stO kd x y z bb t d) (wx w5 : World) (hB : Below wx.heap.size wx w5) (h0 : wx.heap = (w.alloc o).heap) (h1 : wx.os = w.os) (h2 : wx.tape = w.tape) (h3 : wx.output = w.output) : Below w.heap.size w w5 ∧ StS b kd x y z bb t d w5 := by
  subst hb ho
  have hs : wx.heap.size = w.heap.size + 1 := by rw [h0]; simp
  constructor
  · refine ⟨hB.os.trans h1, hB.tape.trans h2, hB.output.trans h3, by have := hB.size; omega, fun k hk => ?_⟩
    rw [hB.block k (by omega), h0]
    exact heap_alloc_old _ _ hk
  · refine st_seven ?_
    rw [hB.block w.heap.size (by omega), h0]
    exact heap_alloc_new _ _

set_option maxHeartbeats 3200000 in
theorem line_ren (k : Nat) (b : Bool) (t : ByteArray) (d : Int) (hk : k < 100) (ht : t.size ≤ 1000000) (w : World) :
    Calls Tryz.prog 59 #[.agg #[.string ⟨#[114]⟩, .int .i64 (k : Int), .int .i64 0, .int .i64 0, .bool b, .string t, .int .i64 d]] w fun e w' => e = .returned (.string (mk (lineT (.ren k b t) ++ [10]))) ∧ Below w.heap.size w w' := by
  have HE : Hid ((⟨#[114]⟩ : ByteArray) ++ ⟨#[32]⟩ ++ mk (Lib.decDigits k) ++ (⟨#[32]⟩ ++ mk (labelL ⟨b, t, d⟩)) ++ ⟨#[10]⟩ = mk (lineT (.ren k b t) ++ [10])) := by
    show mk [114] ++ mk [32] ++ mk (Lib.decDigits k) ++ (mk [32] ++ mk (labelL ⟨b, t, d⟩)) ++ mk [10] = _
    rw [mk_append, mk_append, mk_append, mk_append, mk_append]
    have e : labelL ⟨b, t, d⟩ = labelL ⟨b, t, 0⟩ := rfl
    simp [lineT, e]
  have HL : (mk (Lib.decDigits k)).size ≤ 2 := by rw [mk_size]; exact (dec_read hk).2.2
  have HLb : (mk (labelL ⟨b, t, d⟩)).size ≤ 5000000 := by rw [mk_size]; have := labelL_len ⟨b, t, d⟩ ht; omega
  have HI := hide (fun w1 => itoa_any k hk w1)
  have HLA := hide (fun w1 => label_any ⟨b, t, d⟩ w1 ht)
  have HS0 := hide (st_seven (heap_alloc_new w (stO ⟨#[114]⟩ (k : Int) 0 0 b t d)))
  have HK := hide (fun wx w5 => line_key w (stO ⟨#[114]⟩ (k : Int) 0 0 b t d) rfl rfl wx w5)
  clear hk ht
  unfold stO at *
  generalize mk (Lib.decDigits k) = dk at *
  generalize mk (labelL ⟨b, t, d⟩) = lb at *
  generalize mk (lineT (.ren k b t) ++ [10]) = R at *
  have a1 : ∀ wx, (Op.stringOp .add (⟨#[114, 32]⟩ : ByteArray) dk).run Tryz.prog wx = .ok (.string ((⟨#[114, 32]⟩ : ByteArray) ++ dk)) wx := fun wx => run_string_add_sum wx _ _ (by show 2 + dk.size ≤ _; omega)
  have a2 : ∀ wx, (Op.stringOp .add ((⟨#[114]⟩ : ByteArray) ++ ⟨#[32]⟩) dk).run Tryz.prog wx = .ok (.string ((⟨#[114]⟩ : ByteArray) ++ ⟨#[32]⟩ ++ dk)) wx := fun wx => run_string_add_sum wx _ _ (by show 2 + dk.size ≤ _; omega)
  have a3 : ∀ wx, (Op.stringOp .add (⟨#[32]⟩ : ByteArray) lb).run Tryz.prog wx = .ok (.string ((⟨#[32]⟩ : ByteArray) ++ lb)) wx := fun wx => run_string_add_sum wx _ _ (by show 1 + lb.size ≤ _; omega)
  have z1 : ((⟨#[114]⟩ : ByteArray) ++ ⟨#[32]⟩ ++ dk).size = 2 + dk.size := by rw [ByteArray.size_append]; rfl
  have z2 : ((⟨#[32]⟩ : ByteArray) ++ lb).size = 1 + lb.size := by rw [ByteArray.size_append]; rfl
  have a4 : ∀ wx, (Op.stringOp .add ((⟨#[114]⟩ : ByteArray) ++ ⟨#[32]⟩ ++ dk) (⟨#[32]⟩ ++ lb)).run Tryz.prog wx = .ok (.string ((⟨#[114]⟩ : ByteArray) ++ ⟨#[32]⟩ ++ dk ++ (⟨#[32]⟩ ++ lb))) wx := fun wx => run_string_add_sum wx _ _ (by omega)
  have a5 : ∀ wx, (Op.stringOp .add ((⟨#[114, 32]⟩ : ByteArray) ++ dk) (⟨#[32]⟩ ++ lb)).run Tryz.prog wx = .ok (.string ((⟨#[114, 32]⟩ : ByteArray) ++ dk ++ (⟨#[32]⟩ ++ lb))) wx := fun wx => run_string_add_sum wx _ _ (by rw [ByteArray.size_append, z2]; show 2 + dk.size + _ ≤ _; omega)
  clear z1 z2
  go_enter Tryz.func59, Tryz.ntmps59
  go_wp2_with fail
  go_region_held3 (StS w.heap.size ⟨#[114]⟩ (k : Int) 0 0 b t d) (exact unhide HS0) (first | (go_at_call 92; refine (unhide HI _).mono ?_; rintro e w1 ⟨rfl, hw⟩; have hw := hw.symm; subst hw))
  all_goals (obtain ⟨c0, c1, c2, c3, c4, c5, c6⟩ := unhide HS0)
  all_goals go_wp2_with fail
  all_goals (refine (unhide HLA _).mono ?_)
  all_goals (rintro e w5 ⟨rfl, hB5⟩)
  all_goals (have HB5 := hide (unhide HK _ _ hB5 rfl rfl rfl rfl).1; have HS5 := hide (unhide HK _ _ hB5 rfl rfl rfl rfl).2; clear hB5)
  all_goals go_wp2_with fail
  all_goals go_ret
  all_goals exact ⟨ret_str (unhide HE), unhide HB5⟩

set_option maxHeartbeats 3200000 in
theorem line_ins (k i n : Nat) (b : Bool) (t : ByteArray) (d : Int) (hk : k < 100) (hi : i < 100) (hn : n < 100) (ht : t.size ≤ 1000000) (w : World) :
    Calls Tryz.prog 59 #[.agg #[.string ⟨#[105]⟩,   .int .i64 (k : Int), .int .i64 (i : Int), .int .i64 (n : Int), .bool b, .string t, .int .i64 d]] w fun e w' => e = .returned (.string (mk (lineT (.ins k i n b t) ++ [10]))) ∧ Below w.heap.size w w' := by
  have HE : Hid ((⟨#[105]⟩ : ByteArray) ++ ⟨#[32]⟩ ++ mk (Lib.decDigits k) ++ (⟨#[32]⟩ ++ mk (Lib.decDigits i)) ++ (⟨#[32]⟩ ++ mk (Lib.decDigits n)) ++ (⟨#[32]⟩ ++ mk (labelL ⟨b, t, d⟩)) ++ ⟨#[10]⟩ = mk (lineT (.ins k i n b t) ++ [10])) := by
    show mk [105] ++ mk [32] ++ mk (Lib.decDigits k) ++ (mk [32] ++ mk (Lib.decDigits i)) ++ (mk [32] ++ mk (Lib.decDigits n)) ++ (mk [32] ++ mk (labelL ⟨b, t, d⟩)) ++ mk [10] = _
    rw [mk_append, mk_append, mk_append, mk_append, mk_append, mk_append, mk_append, mk_append, mk_append]
    have e : labelL ⟨b, t, d⟩ = labelL ⟨b, t, 0⟩ := rfl
    simp [lineT, e]
  have HL : (mk (Lib.decDigits k)).size ≤ 2 := by rw [mk_size]; exact (dec_read hk).2.2
  have HLi : (mk (Lib.decDigits i)).size ≤ 2 := by rw [mk_size]; exact (dec_read hi).2.2
  have HLn : (mk (Lib.decDigits n)).size ≤ 2 := by rw [mk_size]; exact (dec_read hn).2.2
  have HLb : (mk (labelL ⟨b, t, d⟩)).size ≤ 5000000 := by rw [mk_size]; have := labelL_len ⟨b, t, d⟩ ht; omega
  have HI := hide (fun w1 => itoa_any k hk w1)
  have HJ := hide (fun w1 => itoa_any i hi w1)
  have HM := hide (fun w1 => itoa_any n hn w1)
  have HLA := hide (fun w1 => label_any ⟨b, t, d⟩ w1 ht)
  have HS0 := hide (st_seven (heap_alloc_new w (stO ⟨#[105]⟩ (k : Int) (i : Int) (n : Int) b t d)))
  have HK := hide (fun wx w5 => line_key w (stO ⟨#[105]⟩ (k : Int) (i : Int) (n : Int) b t d) rfl rfl wx w5)
  clear hk ht hi hn
  unfold stO at *
  generalize mk (Lib.decDigits k) = dk at *
  generalize mk (Lib.decDigits i) = di at *
  generalize mk (Lib.decDigits n) = dn at *
  generalize mk (labelL ⟨b, t, d⟩) = lb at *
  generalize mk (lineT (.ins k i n b t) ++ [10]) = R at *
  have a1 : ∀ wx, (Op.stringOp .add (⟨#[105, 32]⟩ : ByteArray) dk).run Tryz.prog wx = .ok (.string ((⟨#[105, 32]⟩ : ByteArray) ++ dk)) wx := fun wx => run_string_add_sum wx _ _ (by show 2 + dk.size ≤ _; omega)
  have a2 : ∀ wx, (Op.stringOp .add ((⟨#[105]⟩ : ByteArray) ++ ⟨#[32]⟩) dk).run Tryz.prog wx = .ok (.string ((⟨#[105]⟩ : ByteArray) ++ ⟨#[32]⟩ ++ dk)) wx := fun wx => run_string_add_sum wx _ _ (by show 2 + dk.size ≤ _; omega)
  have a3 : ∀ wx, (Op.stringOp .add (⟨#[32]⟩ : ByteArray) lb).run Tryz.prog wx = .ok (.string ((⟨#[32]⟩ : ByteArray) ++ lb)) wx := fun wx => run_string_add_sum wx _ _ (by show 1 + lb.size ≤ _; omega)
  have a3i : ∀ wx, (Op.stringOp .add (⟨#[32]⟩ : ByteArray) di).run Tryz.prog wx = .ok (.string ((⟨#[32]⟩ : ByteArray) ++ di)) wx := fun wx => run_string_add_sum wx _ _ (by show 1 + di.size ≤ _; omega)
  have a3n : ∀ wx, (Op.stringOp .add (⟨#[32]⟩ : ByteArray) dn).run Tryz.prog wx = .ok (.string ((⟨#[32]⟩ : ByteArray) ++ dn)) wx := fun wx => run_string_add_sum wx _ _ (by show 1 + dn.size ≤ _; omega)
  have z1 : ((⟨#[105]⟩ : ByteArray) ++ ⟨#[32]⟩ ++ dk).size = 2 + dk.size := by rw [ByteArray.size_append]; rfl
  have z2 : ∀ x : ByteArray, ((⟨#[32]⟩ : ByteArray) ++ x).size = 1 + x.size := fun x => by rw [ByteArray.size_append]; rfl
  have a4 : ∀ wx, (Op.stringOp .add ((⟨#[105]⟩ : ByteArray) ++ ⟨#[32]⟩ ++ dk) (⟨#[32]⟩ ++ di)).run Tryz.prog wx = .ok (.string ((⟨#[105]⟩ : ByteArray) ++ ⟨#[32]⟩ ++ dk ++ (⟨#[32]⟩ ++ di))) wx := fun wx => run_string_add_sum wx _ _ (by rw [z1, z2]; omega)
  have a5 : ∀ wx, (Op.stringOp .add ((⟨#[105]⟩ : ByteArray) ++ ⟨#[32]⟩ ++ dk ++ (⟨#[32]⟩ ++ di)) (⟨#[32]⟩ ++ dn)).run Tryz.prog wx = .ok (.string ((⟨#[105]⟩ : ByteArray) ++ ⟨#[32]⟩ ++ dk ++ (⟨#[32]⟩ ++ di) ++ (⟨#[32]⟩ ++ dn))) wx := fun wx => run_string_add_sum wx _ _ (by rw [ByteArray.size_append, z1, z2, z2]; omega)
  have a6 : ∀ wx, (Op.stringOp .add ((⟨#[105]⟩ : ByteArray) ++ ⟨#[32]⟩ ++ dk ++ (⟨#[32]⟩ ++ di) ++ (⟨#[32]⟩ ++ dn)) (⟨#[32]⟩ ++ lb)).run Tryz.prog wx = .ok (.string ((⟨#[105]⟩ : ByteArray) ++ ⟨#[32]⟩ ++ dk ++ (⟨#[32]⟩ ++ di) ++ (⟨#[32]⟩ ++ dn) ++ (⟨#[32]⟩ ++ lb))) wx := fun wx => run_string_add_sum wx _ _ (by rw [ByteArray.size_append, ByteArray.size_append, z1, z2, z2, z2]; omega)
  clear z1 z2
  go_enter Tryz.func59, Tryz.ntmps59
  go_wp2_with fail
  go_region_held3 (StS w.heap.size ⟨#[105]⟩ (k : Int) (i : Int) (n : Int) b t d) (exact unhide HS0) (first | (go_at_call 92; refine (unhide HI _).mono ?_; rintro e w1 ⟨rfl, hw⟩; have hw := hw.symm; subst hw))
  all_goals (obtain ⟨c0, c1, c2, c3, c4, c5, c6⟩ := unhide HS0)
  all_goals go_wp2_with fail
  all_goals (refine (unhide HJ _).mono ?_)
  all_goals rintro e w1 ⟨rfl, hw⟩; have hw := hw.symm; subst hw
  all_goals go_wp2_with fail
  all_goals (refine (unhide HM _).mono ?_)
  all_goals rintro e w1 ⟨rfl, hw⟩; have hw := hw.symm; subst hw
  all_goals go_wp2_with fail
  all_goals (refine (unhide HLA _).mono ?_)
  all_goals (rintro e w5 ⟨rfl, hB5⟩)
  all_goals (have HB5 := hide (unhide HK _ _ hB5 rfl rfl rfl rfl).1; have HS5 := hide (unhide HK _ _ hB5 rfl rfl rfl rfl).2; clear hB5)
  all_goals go_wp2_with fail
  all_goals go_ret
  all_goals exact ⟨ret_str (unhide HE), unhide HB5⟩

end Go.Proofs.YtdaneedflpfeaaaGreatDoor

namespace Go.Proofs.YtdaneedflpfeaaaGreatDoor
set_option maxRecDepth 100000
open Go.RowKit

/-! ## The script's two parts -/
theorem mk_empty : mk [] = ⟨#[]⟩ := rfl
theorem script_step {S : List UInt8} {st : List Stp} {r T : List UInt8} (h : S ++ (scriptL st ++ r) = T) : (S ++ scriptL st) ++ r = T := by rw [List.append_assoc]; exact h
theorem script_one (st : Stp) : scriptL [st] = lineT st ++ [10] := by simp [scriptL]
theorem stF_none {L M : List Nd} {mf : Nat → Nat} {k : Nat} (h : mf k = 0) : stF L (lbF M mf) k = [.del k] := by rw [stF, lbF, if_pos h]
theorem stF_some {L M : List Nd} {mf : Nat → Nat} {k : Nat} {x y : Nd} (h : mf k ≠ 0) (hx : L[k]? = some x) (hy : M[mf k]? = some y) : stF L (lbF M mf) k = if lab x = lab y then [] else [.ren k y.inner y.text] := by
  rw [stF, lbF, if_neg h, hx, hy]
  simp only [Option.map_some, Option.some.injEq]
  rfl

/-- What a comparison of two nodes reads. -/
abbrev ChS (b gf cf lf gt ct lt u v : Nat) (x y : Nd) (wq : World) : Prop :=
  wq.cell? ⟨b, 0, none⟩ = some (.slice (some ⟨gf, 0, none⟩) lf cf) ∧ wq.cell? ⟨b, 1, none⟩ = some (.slice (some ⟨gt, 0, none⟩) lt ct) ∧
  wq.cell? ⟨gf, u * 3, none⟩ = some (.bool x.inner) ∧ wq.cell? ⟨gf, u * 3 + 1, none⟩ = some (.string x.text) ∧ wq.cell? ⟨gf, u * 3 + 2, none⟩ = some (.int .i64 x.depth) ∧
  wq.cell? ⟨gt, v * 3, none⟩ = some (.bool y.inner) ∧ wq.cell? ⟨gt, v * 3 + 1, none⟩ = some (.string y.text) ∧ wq.cell? ⟨gt, v * 3 + 2, none⟩ = some (.int .i64 y.depth)

set_option maxHeartbeats 6400000 in
theorem changes_any (L M : List Nd) (mf : Nat → Nat) (gF gT nT gf cf gt ct ge ce gu cu gb cb B : Nat) (hb : Nat → Nat) (Fb : Nat → Nat → Int) (w : World) (hL0 : 0 < L.length) (hLl : L.length ≤ 80) (hsm : ∀ x ∈ M, x.text.size ≤ 1000000)
    (hmf : ∀ k, k < L.length → mf k < M.length) (hc : Cmp w L M gf gt ge gu gb B hb Fb) (hr : w.rowIs gF 3 L.length (intsF mf)) (hsz : (scriptL (chg L (lbF M mf) (L.length - 1))).length ≤ 1000000) :
    Calls Tryz.prog 37 #[parV gF L.length gT nT, cmpV gf cf L.length gt ct M.length ge ce gu cu gb cb] w fun e w' => e = .returned (.string (mk (scriptL (chg L (lbF M mf) (L.length - 1))))) ∧ Below w.heap.size w w' := by
  have HKEY : Hid (∀ wq, Below (w.heap.size + 2) ((w.alloc (parO gF L.length gT nT)).alloc (cmpO gf cf L.length gt ct M.length ge ce gu cu gb cb)) wq → wq.cell? ⟨w.heap.size, 0, none⟩ = some (.slice (some ⟨gF, 0, none⟩) L.length L.length) ∧ (wq.cell? ⟨w.heap.size + 1, 0, none⟩ = some (.slice (some ⟨gf, 0, none⟩) L.length cf) ∧ wq.cell? ⟨w.heap.size + 1, 1, none⟩ = some (.slice (some ⟨gt, 0, none⟩) M.length ct)) ∧ NA wq gf 0 L ∧ NA wq gt 0 M ∧ wq.rowIs gF 3 L.length (intsF mf) ∧ Below w.heap.size w wq) := fun wq hq => by
    obtain ⟨h1, h2, h3⟩ := two_boxes hq
    obtain ⟨c0, c1, _, _, _⟩ := cmp_cells h2
    have hcm := hc.heap h3
    exact ⟨(par_cells h1).1, ⟨c0, c1⟩, hcm.from_, hcm.to_, hr.of_block (h3.block _ hr.lt), h3⟩
  have HMFB := hide hmf
  have HSM := hide hsm
  have HSZ := hide hsz
  clear hc hr hmf hsm hsz
  unfold parO cmpO at HKEY
  unfold parV cmpV
  have HB0 := hide (Below.refl (w.heap.size + 2) ((w.alloc (.cells #[.slice (some ⟨gF, 0, none⟩) L.length L.length, .slice (some ⟨gT, 0, none⟩) nT nT] 70 (0, 0))).alloc (.cells #[.slice (some ⟨gf, 0, none⟩) L.length cf, .slice (some ⟨gt, 0, none⟩) M.length ct, .slice (some ⟨ge, 0, none⟩) L.length ce, .slice (some ⟨gu, 0, none⟩) M.length cu, .slice (some ⟨gb, 0, none⟩) L.length cb] 67 (0, 0))))
  have k0 := (unhide HKEY _ (unhide HB0)).2.1.1
  have HW0 : Hid (w.heap.size + 2 ≤ ((w.alloc (.cells #[.slice (some ⟨gF, 0, none⟩) L.length L.length, .slice (some ⟨gT, 0, none⟩) nT nT] 70 (0, 0))).alloc (.cells #[.slice (some ⟨gf, 0, none⟩) L.length cf, .slice (some ⟨gt, 0, none⟩) M.length ct, .slice (some ⟨ge, 0, none⟩) L.length ce, .slice (some ⟨gu, 0, none⟩) M.length cu, .slice (some ⟨gb, 0, none⟩) L.length cb] 67 (0, 0))).heap.size) := by show _ ≤ _; simp
  go_enter Tryz.func37, Tryz.ntmps37
  go_wp2_with fail
  generalize ((w.alloc (.cells #[.slice (some ⟨gF, 0, none⟩) L.length L.length, .slice (some ⟨gT, 0, none⟩) nT nT] 70 (0, 0))).alloc (.cells #[.slice (some ⟨gf, 0, none⟩) L.length cf, .slice (some ⟨gt, 0, none⟩) M.length ct, .slice (some ⟨ge, 0, none⟩) L.length ce, .slice (some ⟨gu, 0, none⟩) M.length cu, .slice (some ⟨gb, 0, none⟩) L.length cb] 67 (0, 0))) = W0 at *
  go_loopw [5, 6, 7, 8, 9] (fun s k _ _ _ wr => ∃ (n : Nat) (S : List UInt8), n < L.length ∧ k = .int .i64 (n : Int) ∧ s = .string (mk S) ∧ Hid (S ++ scriptL (chg L (lbF M mf) n) = scriptL (chg L (lbF M mf) (L.length - 1))) ∧ Below (w.heap.size + 2) W0 wr) (fun _ k _ _ _ _ => (intOf k).toNat)
  case atStart => exact ⟨L.length - 1, [], by omega, by go_num, rfl, rfl, unhide HB0⟩
  case round =>
    clear k0
    obtain ⟨n, S, hn, rfl, rfl, HE, hB⟩ := hrel
    have hSl : (mk S).size ≤ 1000000 := by rw [mk_size]; have := congrArg List.length (unhide HE); rw [List.length_append] at this; have := unhide HSZ; omega
    obtain ⟨c0, ⟨c1, c2⟩, hL, hM, hr, _⟩ := unhide HKEY _ hB
    have HB := hide hB
    have hszB := hB.size
    have hW0 := unhide HW0
    clear hB
    by_cases hn0 : n = 0
    · subst hn0
      have HR : Hid (mk S = mk (scriptL (chg L (lbF M mf) (L.length - 1)))) := by show _ = _; rw [← unhide HE]; simp [chg, scriptL]
      clear hL hM hr HE
      go_wp2_with fail
      go_ret
      exact ⟨ret_str (unhide HR), (unhide HKEY _ (unhide HB)).2.2.2.2.2⟩
    · obtain ⟨m, rfl⟩ : ∃ m, n = m + 1 := ⟨n - 1, by omega⟩
      have i1 := hr.cell (i := m + 1) hn
      unfold intsF at i1
      have hmb := unhide HMFB (m + 1) hn
      by_cases hz : mf (m + 1) = 0
      · rw [hz] at i1
        have HLD := hide (fun wx => line_del (m + 1) (by omega) wx)
        rw [show ((m + 1 : Nat) : Int) = (m : Int) + 1 by omega] at HLD
        have HE2 : Hid ((S ++ (lineT (.del (m + 1)) ++ [10])) ++ scriptL (chg L (lbF M mf) m) = scriptL (chg L (lbF M mf) (L.length - 1))) := by
          show _ = _
          rw [← unhide HE, chg, stF_none hz, scriptL_app, script_one, List.append_assoc]
        have hls : (mk (lineT (.del (m + 1)) ++ [10])).size ≤ 1000000 := by
          rw [mk_size]
          have := congrArg List.length (unhide HE2)
          rw [List.length_append, List.length_append] at this
          have := unhide HSZ
          omega
        have HCAT := hide (mk_append S (lineT (.del (m + 1)) ++ [10]))
        clear hL hM hr HE hz
        generalize mk (lineT (.del (m + 1)) ++ [10]) = ln at *
        go_wp2_with fail
        refine (unhide HLD _).mono ?_
        rintro e w1 ⟨rfl, hB1⟩
        have HB1 : Hid (Below (w.heap.size + 2) W0 w1) := ((unhide HB).alloc (by omega) _).trans (hB1.mono (by simp; omega))
        clear hB1
        go_wp2_with fail
        go_roundw
        case rel => exact ⟨m, _, by omega, by go_num, by rw [unhide HCAT], HE2, unhide HB1⟩
        case measure => simp [intOf]
      · obtain ⟨x, hx⟩ : ∃ x, L[m + 1]? = some x := ⟨_, List.getElem?_eq_getElem hn⟩
        obtain ⟨y, hy⟩ : ∃ y, M[mf (m + 1)]? = some y := ⟨_, List.getElem?_eq_getElem hmb⟩
        have hz' : (((mf (m + 1) : Nat) : Int) == 0) = false := by simp; omega
        have hys := unhide HSM y (List.mem_of_getElem? hy)
        have HST := hide (stF_some (L := L) (M := M) (mf := mf) hz hx hy)
        have HA := hide (isAlike_any x y)
        have HX := hide hx
        have HY := hide hy
        have HCS : Hid (∀ wq, Below (w.heap.size + 2) W0 wq → ChS (w.heap.size + 1) gf cf L.length gt ct M.length (m + 1) (mf (m + 1)) x y wq) := fun wq hq => by
          obtain ⟨_, ⟨a1, a2⟩, aL, aM, _, _⟩ := unhide HKEY _ hq
          obtain ⟨x0, x1, x2⟩ := aL.cell0 (unhide HX)
          obtain ⟨y0, y1, y2⟩ := aM.cell0 (unhide HY)
          exact ⟨a1, a2, x0, x1, x2, y0, y1, y2⟩
        have HS0 := hide (unhide HCS _ (unhide HB))
        have n1 : (0 : Int) ≤ ((m + 1 : Nat) : Int) := by omega
        have n2 : ((m + 1 : Nat) : Int) < (L.length : Int) := by omega
        have n5 : (0 : Int) ≤ (m : Int) + 1 := by omega
        have n6 : (m : Int) + 1 < (L.length : Int) := by omega
        have n3 : (0 : Int) ≤ ((mf (m + 1) : Nat) : Int) := by omega
        have n4 : ((mf (m + 1) : Nat) : Int) < (M.length : Int) := by omega
        clear hL hM hr hz hx hy c1 c2
        generalize mf (m + 1) = p at *
        by_cases hal : lab x = lab y
        · have hal' : decide (lab x = lab y) = true := by simp [hal]
          rw [hal'] at HA
          have HE2 : Hid (S ++ scriptL (chg L (lbF M mf) m) = scriptL (chg L (lbF M mf) (L.length - 1))) := by
            show _ = _
            rw [← unhide HE, chg, unhide HST, if_pos hal]; rfl
          clear HE HST hal hal'
          go_wp2_with fail
          go_region_held3 (ChS (w.heap.size + 1) gf cf L.length gt ct M.length (m + 1) p x y) (first | exact unhide HS0 | exact unhide HS5) (first | (go_at_call 60; refine (unhide HA _).mono ?_; rintro e w5 ⟨rfl, hB5⟩; have HB5 : Hid (Below (w.heap.size + 2) W0 w5) := ((unhide HB).drew).trans (hB5.mono (by first | omega | (simp; omega))); have HS5 := hide (unhide HCS _ (unhide HB5)); clear hB5))
          go_wp2_with fail
          go_roundw
          case rel => exact ⟨m, S, by omega, by go_num, rfl, HE2, unhide HB5⟩
          case measure => simp [intOf]
        · have hal' : decide (lab x = lab y) = false := by simp [hal]
          rw [hal'] at HA
          have HLD := hide (fun wx => line_ren (m + 1) y.inner y.text y.depth (by omega) hys wx)
          rw [show ((m + 1 : Nat) : Int) = (m : Int) + 1 by omega] at HLD
          have HE2 : Hid ((S ++ (lineT (.ren (m + 1) y.inner y.text) ++ [10])) ++ scriptL (chg L (lbF M mf) m) = scriptL (chg L (lbF M mf) (L.length - 1))) := by
            show _ = _
            rw [← unhide HE, chg, unhide HST, if_neg hal, scriptL_app, script_one, List.append_assoc]
          have hls : (mk (lineT (.ren (m + 1) y.inner y.text) ++ [10])).size ≤ 1000000 := by
            rw [mk_size]
            have := congrArg List.length (unhide HE2)
            rw [List.length_append, List.length_append] at this
            have := unhide HSZ
            omega
          have HCAT := hide (mk_append S (lineT (.ren (m + 1) y.inner y.text) ++ [10]))
          clear HE HST hal hal'
          generalize mk (lineT (.ren (m + 1) y.inner y.text) ++ [10]) = ln at *
          go_wp2_with fail
          go_region_held3 (ChS (w.heap.size + 1) gf cf L.length gt ct M.length (m + 1) p x y) (first | exact unhide HS0 | exact unhide HS5) (first | (go_at_call 60; refine (unhide HA _).mono ?_; rintro e w5 ⟨rfl, hB5⟩; have HB5 : Hid (Below (w.heap.size + 2) W0 w5) := ((unhide HB).drew).trans (hB5.mono (by first | omega | (simp; omega))); have HS5 := hide (unhide HCS _ (unhide HB5)); clear hB5))
          obtain ⟨a1, a2, x0, x1, x2, y0, y1, y2⟩ := unhide HS5
          go_wp2_with fail
          refine (unhide HLD _).mono ?_
          rintro e w1 ⟨rfl, hB1⟩
          have hsz5 := (unhide HB5).size
          have HB1 : Hid (Below (w.heap.size + 2) W0 w1) := ((unhide HB5).alloc (by omega) _).trans (hB1.mono (by simp; omega))
          clear hB1 a1 a2 x0 x1 x2 y0 y1 y2
          go_wp2_with fail
          go_roundw
          case rel => exact ⟨m, _, by omega, by go_num, by rw [unhide HCAT], HE2, unhide HB1⟩
          case measure => simp [intOf]

end Go.Proofs.YtdaneedflpfeaaaGreatDoor

namespace Go.Proofs.YtdaneedflpfeaaaGreatDoor
set_option maxRecDepth 100000
open Go.RowKit

theorem par_lt {M : List Nd} (h : Prog M) {l : Nat} (h1 : 1 ≤ l) (hl : l < M.length) : parN M l < l := by
  have hx : M[l]? = some M[l] := List.getElem?_eq_getElem hl
  have hx1 : 1 ≤ (M[l]).depth := h.ge _ (by rw [List.mem_iff_getElem?]; exact ⟨l - 1, by rw [List.getElem?_drop, show 1 + (l - 1) = l by omega]; exact hx⟩)
  obtain ⟨p1, p2, p3⟩ := parG_spec M (M[l]).depth l hl
  have hpe : parN M l = parG M (M[l]).depth l := by rw [parN, dpt, hx]
  rw [hpe]
  rcases Nat.lt_or_ge (parG M (M[l]).depth l) l with q | q
  · exact q
  · have e : parG M (M[l]).depth l = l := by omega
    rw [e] at p3
    rcases p3 with r | r
    · omega
    · have := r _ hx; omega
theorem st_frozen {w : World} {b : Nat} {kd : ByteArray} {x y z : Int} {bb : Bool} {t : ByteArray} {d : Int} (h : w.heap[b]? = some (stO kd x y z bb t d)) (j : Nat) : w.frozen? ⟨b, j, none⟩ = false := frozen_of_row w b j _ _ h
theorem set_two {w : World} {b : Nat} {kd : ByteArray} {x y z v : Int} {bb : Bool} {t : ByteArray} {d : Int} (h : w.heap[b]? = some (stO kd x y z bb t d)) : (w.setCell ⟨b, 2, none⟩ (.int .i64 v)).heap[b]? = some (stO kd x v z bb t d) := by
  unfold stO at h ⊢
  have := heap_setCell_same _ b 2 _ _ (.int .i64 v) h
  rw [this]
  congr 1
theorem set_three {w : World} {b : Nat} {kd : ByteArray} {x y z v : Int} {bb : Bool} {t : ByteArray} {d : Int} (h : w.heap[b]? = some (stO kd x y z bb t d)) : (w.setCell ⟨b, 3, none⟩ (.int .i64 v)).heap[b]? = some (stO kd x y v bb t d) := by
  unfold stO at h ⊢
  have := heap_setCell_same _ b 3 _ _ (.int .i64 v) h
  rw [this]
  congr 1

set_option maxHeartbeats 6400000 in
theorem additions_any (L M : List Nd) (mt : Nat → Nat) (gF gT nF gf cf gt ct ge ce gu cu gb cb B : Nat) (hb : Nat → Nat) (Fb : Nat → Nat → Int) (w : World) (hM0 : 0 < M.length) (hMl : M.length ≤ 80) (hsm : ∀ x ∈ M, x.text.size ≤ 1000000)
    (hP : Prog M) (hc : Cmp w L M gf gt ge gu gb B hb Fb) (hr : w.rowIs gT 3 M.length (intsF mt)) (hsz : (scriptL (adds M mt 1 (M.length - 1))).length ≤ 1000000) :
    Calls Tryz.prog 38 #[parV gF nF gT M.length, cmpV gf cf L.length gt ct M.length ge ce gu cu gb cb] w fun e w' => e = .returned (.string (mk (scriptL (adds M mt 1 (M.length - 1))))) ∧ Below w.heap.size w w' := by
  have HKEY : Hid (∀ wq, Below (w.heap.size + 2) ((w.alloc (parO gF nF gT M.length)).alloc (cmpO gf cf L.length gt ct M.length ge ce gu cu gb cb)) wq → (wq.cell? ⟨w.heap.size, 0, none⟩ = some (.slice (some ⟨gF, 0, none⟩) nF nF) ∧ wq.cell? ⟨w.heap.size, 1, none⟩ = some (.slice (some ⟨gT, 0, none⟩) M.length M.length)) ∧ (wq.cell? ⟨w.heap.size + 1, 0, none⟩ = some (.slice (some ⟨gf, 0, none⟩) L.length cf) ∧ wq.cell? ⟨w.heap.size + 1, 1, none⟩ = some (.slice (some ⟨gt, 0, none⟩) M.length ct) ∧ wq.cell? ⟨w.heap.size + 1, 2, none⟩ = some (.slice (some ⟨ge, 0, none⟩) L.length ce) ∧ wq.cell? ⟨w.heap.size + 1, 3, none⟩ = some (.slice (some ⟨gu, 0, none⟩) M.length cu) ∧ wq.cell? ⟨w.heap.size + 1, 4, none⟩ = some (.slice (some ⟨gb, 0, none⟩) L.length cb)) ∧ NA wq gt 0 M ∧ IA wq gu M.length (subE M) ∧ wq.rowIs gT 3 M.length (intsF mt) ∧ Below w.heap.size w wq) := fun wq hq => by
    obtain ⟨h1, h2, h3⟩ := two_boxes hq
    have hcm := hc.heap h3
    exact ⟨par_cells h1, cmp_cells h2, hcm.to_, hcm.te, hr.of_block (h3.block _ hr.lt), h3⟩
  have HSM := hide hsm
  have HSZ := hide hsz
  have HP := hide hP
  clear hc hr hsm hsz hP
  unfold parO cmpO at HKEY
  unfold parV cmpV
  have HB0 := hide (Below.refl (w.heap.size + 2) ((w.alloc (.cells #[.slice (some ⟨gF, 0, none⟩) nF nF, .slice (some ⟨gT, 0, none⟩) M.length M.length] 70 (0, 0))).alloc (.cells #[.slice (some ⟨gf, 0, none⟩) L.length cf, .slice (some ⟨gt, 0, none⟩) M.length ct, .slice (some ⟨ge, 0, none⟩) L.length ce, .slice (some ⟨gu, 0, none⟩) M.length cu, .slice (some ⟨gb, 0, none⟩) L.length cb] 67 (0, 0))))
  have HW0 : Hid (w.heap.size + 2 ≤ ((w.alloc (.cells #[.slice (some ⟨gF, 0, none⟩) nF nF, .slice (some ⟨gT, 0, none⟩) M.length M.length] 70 (0, 0))).alloc (.cells #[.slice (some ⟨gf, 0, none⟩) L.length cf, .slice (some ⟨gt, 0, none⟩) M.length ct, .slice (some ⟨ge, 0, none⟩) L.length ce, .slice (some ⟨gu, 0, none⟩) M.length cu, .slice (some ⟨gb, 0, none⟩) L.length cb] 67 (0, 0))).heap.size) := by show _ ≤ _; simp
  go_enter Tryz.func38, Tryz.ntmps38
  go_wp2_with fail
  generalize ((w.alloc (.cells #[.slice (some ⟨gF, 0, none⟩) nF nF, .slice (some ⟨gT, 0, none⟩) M.length M.length] 70 (0, 0))).alloc (.cells #[.slice (some ⟨gf, 0, none⟩) L.length cf, .slice (some ⟨gt, 0, none⟩) M.length ct, .slice (some ⟨ge, 0, none⟩) L.length ce, .slice (some ⟨gu, 0, none⟩) M.length cu, .slice (some ⟨gb, 0, none⟩) L.length cb] 67 (0, 0))) = W0 at *
  go_loopw [5, 6, 7, 8] (fun s k _ _ wr => ∃ (n : Nat) (S : List UInt8), 1 ≤ n ∧ n ≤ M.length ∧ k = .int .i64 (n : Int) ∧ s = .string (mk S) ∧ Hid (S ++ scriptL (adds M mt n (M.length - n)) = scriptL (adds M mt 1 (M.length - 1))) ∧ Below (w.heap.size + 2) W0 wr) (fun _ k _ _ _ => M.length - (intOf k).toNat)
  case atStart => exact ⟨1, [], by omega, by omega, by go_num, rfl, rfl, unhide HB0⟩
  case round =>
    obtain ⟨n, S, hn1, hn, rfl, rfl, HE, hB⟩ := hrel
    have hSl : (mk S).size ≤ 1000000 := by rw [mk_size]; have := congrArg List.length (unhide HE); rw [List.length_append] at this; have := unhide HSZ; omega
    obtain ⟨⟨c0, c1⟩, ⟨d0, d1, d2, d3, d4⟩, hM, hU, hr, _⟩ := unhide HKEY _ hB
    have HB := hide hB
    have hszB := hB.size
    have hW0 := unhide HW0
    clear hB
    by_cases hlt : n < M.length
    · obtain ⟨x, hx⟩ : ∃ x, M[n]? = some x := ⟨_, List.getElem?_eq_getElem hlt⟩
      have hxs := unhide HSM x (List.mem_of_getElem? hx)
      have i1 := hr.cell (i := n) hlt
      unfold intsF at i1
      have HAD : Hid (adds M mt n (M.length - n) = stT M mt n ++ adds M mt (n + 1) (M.length - (n + 1))) := by show _ = _; rw [show M.length - n = (M.length - (n + 1)) + 1 by omega, adds]
      by_cases hz : mt n = 0
      · rw [hz] at i1
        have hpl := par_lt (unhide HP) hn1 hlt
        have HST : Hid (stT M mt n = [.ins (parN M n) (cntD x.depth (Dist.sg M (parN M n + 1) n)) (upN M mt (n + 1) (subE M n)) x.inner x.text]) := by show _ = _; rw [stT, if_pos hz, hx]
        have hcl := cntD_le x.depth (Dist.sg M (parN M n + 1) n)
        rw [Dist.sg_len _ _ _ (by omega)] at hcl
        have hul := upN_le M mt (n + 1) (subE M n)
        have hsl := subE_le hlt
        have HPAR : Hid (∀ wx, Below (w.heap.size + 2) W0 wx → Calls Tryz.prog 61 #[.slice (some ⟨gt, 0, none⟩) M.length ct, .int .i64 (n : Int)] wx fun e w' => e = .returned (.int .i64 (parN M n : Int)) ∧ Below wx.heap.size wx w') := fun wx hx => parentOf_any M n gt ct wx (by omega) hlt (unhide HKEY _ hx).2.2.1
        have HSIB : Hid (∀ wx, Below (w.heap.size + 2) W0 wx → Calls Tryz.prog 62 #[.slice (some ⟨gt, 0, none⟩) M.length ct, .int .i64 (parN M n : Int), .int .i64 (n : Int)] wx fun e w' => e = .returned (.int .i64 (cntD x.depth (Dist.sg M (parN M n + 1) n) : Int)) ∧ Below wx.heap.size wx w') := fun wx h => siblings_any M (parN M n) n gt ct x wx (by omega) hlt hpl hx (unhide HKEY _ h).2.2.1
        have HUPP : Hid (∀ wx, Below (w.heap.size + 2) W0 wx → Calls Tryz.prog 63 #[.agg #[.slice (some ⟨gF, 0, none⟩) nF nF, .slice (some ⟨gT, 0, none⟩) M.length M.length], .agg #[.slice (some ⟨gf, 0, none⟩) L.length cf, .slice (some ⟨gt, 0, none⟩) M.length ct, .slice (some ⟨ge, 0, none⟩) L.length ce, .slice (some ⟨gu, 0, none⟩) M.length cu, .slice (some ⟨gb, 0, none⟩) L.length cb], .int .i64 (n : Int)] wx fun e w' => e = .returned (.int .i64 (upN M mt (n + 1) (subE M n) : Int)) ∧ Below wx.heap.size wx w') := fun wx h => upper_any M mt n L.length gF nF gT gf cf gt ct ge ce gu cu gb cb wx (by omega) hlt (unhide HKEY _ h).2.2.2.1 (unhide HKEY _ h).2.2.2.2.1
        have HLD := hide (fun p i c (h1 : p < 100) (h2 : i < 100) (h3 : c < 100) wx => line_ins p i c x.inner x.text x.depth h1 h2 h3 hxs wx)
        have HX := hide hx
        obtain ⟨x0, x1, x2⟩ := hM.cell0 hx
        clear hM hU hr hz hx
        generalize parN M n = p at *
        generalize cntD x.depth (Dist.sg M (p + 1) n) = sib at *
        generalize upN M mt (n + 1) (subE M n) = up at *
        go_wp2_with fail
        refine (unhide HPAR _ (unhide HB)).mono ?_
        rintro e w1 ⟨rfl, hB1⟩
        have HB1 : Hid (Below (w.heap.size + 2) W0 w1) := (unhide HB).trans (hB1.mono (by omega))
        obtain ⟨_, ⟨e0, e1, e2, e3, e4⟩, hM1, _, _, _⟩ := unhide HKEY _ (unhide HB1)
        obtain ⟨x10, x11, x12⟩ := hM1.cell0 (unhide HX)
        have hsz1 := (unhide HB1).size
        clear hB1 hM1
        have hBA : Below (w.heap.size + 2) W0 (w1.alloc (.cells #[.string ⟨#[105]⟩, .int .i64 (p : Int), .int .i64 0, .int .i64 0, .bool x.inner, .string x.text, .int .i64 x.depth] 97 (0, 0))) := (unhide HB1).alloc (by omega) _
        obtain ⟨_, ⟨r0, r1, r2, r3, r4⟩, _, _, _, _⟩ := unhide HKEY _ hBA
        have HBA := hide hBA
        clear hBA
        go_wp2_with fail
        refine (unhide HSIB _ (unhide HBA)).mono ?_
        rintro e w2 ⟨rfl, hB2⟩
        have HB2 : Hid (Below (w.heap.size + 2) W0 w2) := (unhide HBA).trans (hB2.mono (by simp; omega))
        have hsz2 := hB2.size
        have hk2 : w2.heap[w1.heap.size]? = some (stO ⟨#[105]⟩ (p : Int) 0 0 x.inner x.text x.depth) := (hB2.block _ (by simp)).trans (heap_alloc_new _ _)
        have g2 := st_frozen hk2 2
        obtain ⟨q0, q1, q2, q3, q4, q5, q6⟩ := st_seven hk2
        have hk3 := set_two (v := (sib : Int)) hk2
        have hB3 : Below (w.heap.size + 2) W0 (w2.setCell ⟨w1.heap.size, 2, none⟩ (.int .i64 (sib : Int))) := (unhide HB2).setCell (p := ⟨w1.heap.size, 2, none⟩) (by show w.heap.size + 2 ≤ w1.heap.size; omega) _
        obtain ⟨⟨s0, s1⟩, ⟨s2, s3, s4, s5, s6⟩, _, _, _, _⟩ := unhide HKEY _ hB3
        have HB3 := hide hB3
        have HK3 := hide hk3
        clear hB2 hk2 hk3 hB3 r0 r1 r2 r3 r4 e0 e1 e2 e3 e4 x10 x11 x12
        go_wp2_with fail
        refine (unhide HUPP _ (unhide HB3)).mono ?_
        rintro e w4 ⟨rfl, hB4⟩
        have HB4 : Hid (Below (w.heap.size + 2) W0 w4) := (unhide HB3).trans (hB4.mono (by simp at hsz2 ⊢; omega))
        have hk4 := (hB4.block _ (Array.getElem?_eq_some_iff.1 (unhide HK3)).1).trans (unhide HK3)
        have hsz4 := hB4.size
        have g4 := st_frozen hk4 3
        obtain ⟨v0, v1, v2, v3, v4, v5, v6⟩ := st_seven hk4
        have hk5 := set_three (v := (up : Int)) hk4
        obtain ⟨y0, y1, y2, y3, y4, y5, y6⟩ := st_seven hk5
        have HB5 : Hid (Below (w.heap.size + 2) W0 (w4.setCell ⟨w1.heap.size, 3, none⟩ (.int .i64 (up : Int)))) := (unhide HB4).setCell (p := ⟨w1.heap.size, 3, none⟩) (by show w.heap.size + 2 ≤ w1.heap.size; omega) _
        have HE2 : Hid ((S ++ (lineT (.ins p sib up x.inner x.text) ++ [10])) ++ scriptL (adds M mt (n + 1) (M.length - (n + 1))) = scriptL (adds M mt 1 (M.length - 1))) := by
          show _ = _
          rw [← unhide HE, unhide HAD, unhide HST, scriptL_app, script_one, List.append_assoc]
        have hls : (mk (lineT (.ins p sib up x.inner x.text) ++ [10])).size ≤ 1000000 := by
          rw [mk_size]
          have := congrArg List.length (unhide HE2)
          rw [List.length_append, List.length_append] at this
          have := unhide HSZ
          omega
        have HCAT := hide (mk_append S (lineT (.ins p sib up x.inner x.text) ++ [10]))
        have HLD2 := hide (fun wx => unhide HLD p sib up (by omega) (by omega) (by omega) wx)
        clear hB4 hk4 hk5 HK3 s0 s1 s2 s3 s4 s5 s6 q0 q1 q2 q3 q4 q5 q6 HLD HE HST HAD
        generalize mk (lineT (.ins p sib up x.inner x.text) ++ [10]) = ln at *
        go_wp2_with fail
        refine (unhide HLD2 _).mono ?_
        rintro e w6 ⟨rfl, hB6⟩
        have HB6 : Hid (Below (w.heap.size + 2) W0 w6) := (unhide HB5).trans (hB6.mono (by have := (unhide HB5).size; omega))
        clear hB6
        go_wp2_with fail
        go_roundw
        case rel => exact ⟨n + 1, _, by omega, by omega, by go_num, by rw [unhide HCAT], HE2, unhide HB6⟩
        case measure => simp [intOf]; omega
      · have hz' : (((mt n : Nat) : Int) == 0) = false := by simp; omega
        have HE2 : Hid (S ++ scriptL (adds M mt (n + 1) (M.length - (n + 1))) = scriptL (adds M mt 1 (M.length - 1))) := by
          show _ = _
          rw [← unhide HE, unhide HAD, stT, if_neg hz]; rfl
        clear hM hU hr hz hx HE HAD
        go_wp2_with fail
        go_roundw
        case rel => exact ⟨n + 1, S, by omega, by omega, by go_num, rfl, HE2, unhide HB⟩
        case measure => simp [intOf]; omega
    · have HR : Hid (mk S = mk (scriptL (adds M mt 1 (M.length - 1)))) := by show _ = _; rw [← unhide HE, show M.length - n = 0 by omega]; simp [adds, scriptL]
      clear hM hU hr HE
      go_wp2_with fail
      go_ret
      exact ⟨ret_str (unhide HR), (unhide HKEY _ (unhide HB)).2.2.2.2.2⟩

end Go.Proofs.YtdaneedflpfeaaaGreatDoor

namespace Go.Proofs.YtdaneedflpfeaaaGreatDoor
set_option maxRecDepth 100000
open Go.RowKit

theorem pm_marks {L M : List Nd} {mf mt : Nat → Nat} {n : Nat} (h : PM L M mf mt 1 L.length 1 M.length n) (hM : 0 < M.length) (h0 : mf 0 = 0) : ∀ k, k < L.length → mf k < M.length := by
  intro k hk
  by_cases hz : mf k = 0
  · omega
  · by_cases k0 : k = 0
    · subst k0; exact absurd h0 hz
    · obtain ⟨m, h1, _⟩ := pm_sub h k (by omega) hk hz
      exact h1

theorem made_row {w : World} {b : Nat} {n : Nat} (h : w.heap[b]? = some (.cells (madeCells #[.int .i64 0] n) 3 (0, 0))) : w.rowIs b 3 n (intsF fun _ => 0) :=
  ⟨_, h, size_madeCells _ _, fun i hi => by simp [madeCells, hi, Nat.mod_one, intsF]⟩
theorem three_blocks (W : World) (X Y Z : Obj) : (((W.alloc X).alloc Y).alloc Z).heap[W.heap.size]? = some X ∧ (((W.alloc X).alloc Y).alloc Z).heap[W.heap.size + 1]? = some Y ∧ (((W.alloc X).alloc Y).alloc Z).heap[W.heap.size + 1 + 1]? = some Z ∧ Below W.heap.size W (((W.alloc X).alloc Y).alloc Z) := by
  refine ⟨?_, ?_, ?_, ?_⟩
  · exact (heap_alloc_old _ _ (by simp; omega)).trans ((heap_alloc_old _ _ (by simp)).trans (heap_alloc_new _ _))
  · have := heap_alloc_new (W.alloc X) Y
    refine (heap_alloc_old _ _ (by simp)).trans ?_
    simpa using this
  · have := heap_alloc_new ((W.alloc X).alloc Y) Z
    simpa using this
  · exact (((Below.refl W.heap.size W).alloc (Nat.le_refl _) X).alloc (by simp) Y).alloc (by simp; omega) Z

theorem three_at (W : World) (X Y Z : Obj) (n : Nat) (hn : W.heap.size = n) : (((W.alloc X).alloc Y).alloc Z).drew.heap[n]? = some X ∧ (((W.alloc X).alloc Y).alloc Z).drew.heap[n + 1]? = some Y ∧ (((W.alloc X).alloc Y).alloc Z).drew.heap[n + 1 + 1]? = some Z ∧ Below W.heap.size W (((W.alloc X).alloc Y).alloc Z).drew := by
  subst hn
  obtain ⟨h1, h2, h3, h4⟩ := three_blocks W X Y Z
  exact ⟨h1, h2, h3, h4.drew⟩

/-- What is left of fewestScript behind the making of the two arrays. -/
structure RestI (a b : ByteArray) (L M : List Nd) (W : World) (gf gt ge gu gb B : Nat) (h : Nat → Nat) (F : Nat → Nat → Int) : Prop where
  pL : PrgN a L
  pM : PrgN b M
  cm : Cmp W L M gf gt ge gu gb B h F
  f : ∀ u v, u < L.length → v < M.length → F u v = dB L M u v
  tx : ∀ x ∈ M, x.text.size ≤ 1000000

set_option maxHeartbeats 6400000 in
theorem fewestScript_any (a b : ByteArray) (L M : List Nd) (gf cf gt ct : Nat) (w : World) (ha : outT a = .ok L) (hb : outT b = .ok M) (hL : NA w gf 0 L) (hM : NA w gt 0 M) :
    Calls Tryz.prog 20 #[.slice (some ⟨gf, 0, none⟩) L.length cf, .slice (some ⟨gt, 0, none⟩) M.length ct] w fun e w' => Below w.heap.size w w' ∧ ∃ d, e = .returned (.string d) ∧ DiffS L M d := by
  have pL := prgN_of ha
  have pM := prgN_of hb
  have l1 := pL.len
  have l2 := pM.len
  have l3 := pL.prog.pos
  have l4 := pM.prog.pos
  have HC := hide (compare_any L M gf cf gt ct w l3 l4 (by omega) (by omega) hL hM)
  have HTX : Hid (∀ x ∈ M, x.text.size ≤ 1000000) := fun x hx => by
    obtain ⟨l, j, _, _, _, _, hm⟩ := outT_mod hb
    exact (hm x hx).2.2
  have HPL := hide pL
  have HPM := hide pM
  have hmk1 := run_make_row' (P := Tryz.prog) 53 3 (.int .i64 0) 8 Tryz.underlying53 Tryz.infoInt rfl .i64 .i64 L.length (by omega) (by omega)
  have hmk2 := run_make_row' (P := Tryz.prog) 53 3 (.int .i64 0) 8 Tryz.underlying53 Tryz.infoInt rfl .i64 .i64 M.length (by omega) (by omega)
  clear hL hM ha hb pL pM
  go_enter Tryz.func20, Tryz.ntmps20
  go_wp2_with fail
  refine (unhide HC).mono ?_
  rintro e w1 ⟨hB1, ge, ce, gu, cu, gb, cb, B, h, F, rfl, hc, hF⟩
  have hBc : Below w1.heap.size w1 (w1.alloc (.cells #[.slice (some ⟨gf, 0, none⟩) L.length cf, .slice (some ⟨gt, 0, none⟩) M.length ct, .slice (some ⟨ge, 0, none⟩) L.length ce, .slice (some ⟨gu, 0, none⟩) M.length cu, .slice (some ⟨gb, 0, none⟩) L.length cb] 67 (0, 0))) := (Below.refl _ _).alloc (Nat.le_refl _) _
  have HI : Hid (RestI a b L M (w1.alloc (.cells #[.slice (some ⟨gf, 0, none⟩) L.length cf, .slice (some ⟨gt, 0, none⟩) M.length ct, .slice (some ⟨ge, 0, none⟩) L.length ce, .slice (some ⟨gu, 0, none⟩) M.length cu, .slice (some ⟨gb, 0, none⟩) L.length cb] 67 (0, 0))) gf gt ge gu gb B h F) := ⟨unhide HPL, unhide HPM, hc.heap hBc, hF, unhide HTX⟩
  have HB1 := hide (hB1.trans (hBc.mono hB1.size))
  have HSZ : Hid ((w1.alloc (.cells #[.slice (some ⟨gf, 0, none⟩) L.length cf, .slice (some ⟨gt, 0, none⟩) M.length ct, .slice (some ⟨ge, 0, none⟩) L.length ce, .slice (some ⟨gu, 0, none⟩) M.length cu, .slice (some ⟨gb, 0, none⟩) L.length cb] 67 (0, 0))).heap.size = w1.heap.size + 1) := by show _ = _; simp
  have HNEW : Hid ((w1.alloc (.cells #[.slice (some ⟨gf, 0, none⟩) L.length cf, .slice (some ⟨gt, 0, none⟩) M.length ct, .slice (some ⟨ge, 0, none⟩) L.length ce, .slice (some ⟨gu, 0, none⟩) M.length cu, .slice (some ⟨gb, 0, none⟩) L.length cb] 67 (0, 0))).heap[w1.heap.size]? = some (.cells #[.slice (some ⟨gf, 0, none⟩) L.length cf, .slice (some ⟨gt, 0, none⟩) M.length ct, .slice (some ⟨ge, 0, none⟩) L.length ce, .slice (some ⟨gu, 0, none⟩) M.length cu, .slice (some ⟨gb, 0, none⟩) L.length cb] 67 (0, 0))) := heap_alloc_new _ _
  clear hB1 hc hF HC hBc
  unfold cmpV
  go_wp2_with fail
  rename_i K aK
  have HREST : Hid (∀ (gF gT bp : Nat) (wq : World), PC (w1.alloc (.cells #[.slice (some ⟨gf, 0, none⟩) L.length cf, .slice (some ⟨gt, 0, none⟩) M.length ct, .slice (some ⟨ge, 0, none⟩) L.length ce, .slice (some ⟨gu, 0, none⟩) M.length cu, .slice (some ⟨gb, 0, none⟩) L.length cb] 67 (0, 0))) gF gT bp → PA (w1.alloc (.cells #[.slice (some ⟨gf, 0, none⟩) L.length cf, .slice (some ⟨gt, 0, none⟩) M.length ct, .slice (some ⟨ge, 0, none⟩) L.length ce, .slice (some ⟨gu, 0, none⟩) M.length cu, .slice (some ⟨gb, 0, none⟩) L.length cb] 67 (0, 0))) L.length M.length gF gT bp wq (fun _ => 0) (fun _ => 0) →
      K { tmps := #[.slice (some ⟨gf, 0, none⟩) L.length cf, .slice (some ⟨gt, 0, none⟩) M.length ct, undef, undef, .string ⟨#[]⟩, .pointer (some ⟨w1.heap.size, 0, none⟩), .pointer (some ⟨bp, 0, none⟩), undef, .slice (some ⟨gf, 0, none⟩) L.length cf, .slice (some ⟨gt, 0, none⟩) M.length ct, .agg #[.slice (some ⟨gf, 0, none⟩) L.length cf, .slice (some ⟨gt, 0, none⟩) M.length ct, .slice (some ⟨ge, 0, none⟩) L.length ce, .slice (some ⟨gu, 0, none⟩) M.length cu, .slice (some ⟨gb, 0, none⟩) L.length cb], .slice (some ⟨gf, 0, none⟩) L.length cf, .int .i64 (L.length : Int), .slice (some ⟨gF, 0, none⟩) L.length L.length, .slice (some ⟨gt, 0, none⟩) M.length ct, .int .i64 (M.length : Int), .slice (some ⟨gT, 0, none⟩) M.length M.length, .agg #[.slice (some ⟨gF, 0, none⟩) L.length L.length, .slice (some ⟨gT, 0, none⟩) M.length M.length], undef, undef, undef, undef, undef, undef, undef, undef, undef, undef, undef], defers := [] } wq) := fun gF gT bp wq hpc hpa => by
    have hI := unhide HI
    have r1 := root_sub hI.pL
    have r2 := root_sub hI.pM
    have HPB := hide (pairBelow_any L M gf cf gt ct ge ce gu cu gb cb B h F gF gT bp _ (by omega) (by omega) hI.cm hI.f hpc (subE L 0) 0 0 (fun _ => 0) (fun _ => 0) wq (by omega) l3 l4 hpa (fun _ _ _ => rfl) (fun _ _ _ => rfl))
    have hbx := (hpa.base.block w1.heap.size (by rw [unhide HSZ]; omega)).trans (unhide HNEW)
    obtain ⟨c0, c1, c2, c3, c4⟩ := cmp_cells hbx
    have hFl : w1.heap.size < gF := by have := hpc.f; rw [unhide HSZ] at this; omega
    have hTl : w1.heap.size < gT := by have := hpc.t; rw [unhide HSZ] at this; omega
    have HPC := hide hpc
    clear hpa hpc hbx hmk1 hmk2
    unfold cmpV at HPB
    refine aK _ _ ?_
    go_wp2_with fail
    refine (unhide HPB).mono ?_
    rintro e w2 ⟨rfl, ho2, mf, mt, hp2, g1, g2, hpm⟩
    rw [r1, r2] at hpm
    have HDS : Hid (DiffS L M (mk (scriptL (chg L (lbF M mf) (L.length - 1) ++ adds M mt 1 (M.length - 1))))) := ⟨mf, mt, hpm, rfl⟩
    have hsz := script_size l1 l2 hpm hI.pM.labs
    rw [scriptL_app, List.length_append] at hsz
    obtain ⟨p0, p1⟩ := par_cells hp2.box
    have hb2 := hp2.base
    have hbx2 := (hb2.block w1.heap.size (by rw [unhide HSZ]; omega)).trans (unhide HNEW)
    obtain ⟨d0, d1, d2, d3, d4⟩ := cmp_cells hbx2
    have HCH := hide (changes_any L M mf gF gT M.length gf cf gt ct ge ce gu cu gb cb B h F w2 l3 l1 hI.tx (pm_marks hpm l4 (g1 0 (by omega))) (hI.cm.heap hb2) hp2.rF (by omega))
    have HAD : Hid (∀ w3, Below w2.heap.size w2 w3 → Calls Tryz.prog 38 #[parV gF L.length gT M.length, cmpV gf cf L.length gt ct M.length ge ce gu cu gb cb] w3 fun e w' => e = .returned (.string (mk (scriptL (adds M mt 1 (M.length - 1))))) ∧ Below w3.heap.size w3 w') := fun w3 h3 =>
      additions_any L M mt gF gT L.length gf cf gt ct ge ce gu cu gb cb B h F w3 l4 l2 hI.tx hI.pM.prog (hI.cm.heap (hb2.trans (h3.mono hb2.size))) (hp2.rT.of_block (h3.block _ hp2.rT.lt)) (by omega)
    have HP2 := hide hp2
    have HBX2 := hide hbx2
    have hs1 : (mk (scriptL (chg L (lbF M mf) (L.length - 1)))).size ≤ 1000000 := by rw [mk_size]; omega
    have hs2 : (mk (scriptL (adds M mt 1 (M.length - 1)))).size ≤ 1000000 := by rw [mk_size]; omega
    rw [scriptL_app, ← mk_append] at HDS
    clear ho2 hp2 g1 g2 hpm hbx2 c0 c1 c2 c3 c4 hsz hb2
    generalize mk (scriptL (chg L (lbF M mf) (L.length - 1))) = s1 at *
    generalize mk (scriptL (adds M mt 1 (M.length - 1))) = s2 at *
    unfold parV cmpV at HCH HAD
    go_wp2_with fail
    refine (unhide HCH).mono ?_
    rintro e w3 ⟨rfl, hB3⟩
    obtain ⟨p0', p1'⟩ := par_cells ((hB3.block _ (Array.getElem?_eq_some_iff.1 (unhide HP2).box).1).trans (unhide HP2).box)
    obtain ⟨d0', d1', d2', d3', d4'⟩ := cmp_cells ((hB3.block _ (Array.getElem?_eq_some_iff.1 (unhide HBX2)).1).trans (unhide HBX2))
    have HB3 := hide hB3
    clear hB3 p0 p1 d0 d1 d2 d3 d4
    go_wp2_with fail
    refine (unhide HAD _ (unhide HB3)).mono ?_
    rintro e w4 ⟨rfl, hB4⟩
    have HB4 := hide ((unhide HB3).trans (hB4.mono (unhide HB3).size))
    clear hB4
    go_wp2_with fail
    go_ret
    refine ⟨?_, _, rfl, unhide HDS⟩
    have q1 := unhide HB1
    have q2 := (unhide HP2).base
    have q3 := q1.trans (q2.mono q1.size)
    exact q3.trans ((unhide HB4).mono q3.size)
  go_region
  all_goals (refine unhide HREST _ _ _ _ ⟨?_, ?_, ?_, ?_, ?_, ?_⟩ ⟨?_, made_row ?_, made_row ?_, ?_⟩)
  all_goals first
    | exact (three_at _ _ _ _ _ (unhide HSZ)).1
    | exact (three_at _ _ _ _ _ (unhide HSZ)).2.1
    | exact (three_at _ _ _ _ _ (unhide HSZ)).2.2.1
    | exact (three_at _ _ _ _ _ (unhide HSZ)).2.2.2
    | (have := unhide HSZ; omega)

set_option maxHeartbeats 1600000 in
theorem diff_ok (a b : ByteArray) (L M : List Nd) (w : World) (ha : outT a = .ok L) (hb : outT b = .ok M) :
    Calls Tryz.prog 7 #[.string a, .string b] w fun e w' => Below w.heap.size w w' ∧ ∃ d, e = .returned (.tuple #[.string d, .int .i64 0]) ∧ DiffS L M d := by
  have HR := hide (readBoth_ok a b L M w ha hb)
  have HF := hide (fun g1 c1 g2 c2 wx h1 h2 => fewestScript_any a b L M g1 c1 g2 c2 wx ha hb h1 h2)
  clear ha hb
  go_enter Tryz.func7, Tryz.ntmps7
  go_wp2_with fail
  refine (unhide HR).mono ?_
  rintro e w2 ⟨hB2, g1, cap1, g2, cap2, rfl, hn2, hm2⟩
  have HB2 := hide hB2
  have HN2 := hide hn2
  have HM2 := hide hm2
  clear hB2 hn2 hm2 HR
  go_wp2_with fail
  refine (unhide HF _ _ _ _ _ (unhide HN2) (unhide HM2)).mono ?_
  rintro e w3 ⟨hB3, d, rfl, hds⟩
  have HB3 := hide ((unhide HB2).trans (hB3.mono (unhide HB2).size))
  have HDS := hide hds
  clear hB3 hds
  go_wp2_with fail
  go_ret2
  exact ⟨unhide HB3, d, rfl, unhide HDS⟩

set_option maxHeartbeats 1600000 in
theorem diff_err (a b : ByteArray) (w : World) (h : bothC a b ≠ 0) :
    Calls Tryz.prog 7 #[.string a, .string b] w fun e w' => e = .returned (.tuple #[.string ⟨#[]⟩, .int .i64 (bothC a b)]) ∧ Below w.heap.size w w' := by
  have HR := hide (readBoth_err a b w h)
  have hc : (bothC a b != 0) = true := bne_iff_ne.2 h
  clear h
  generalize bothC a b = c at *
  go_enter Tryz.func7, Tryz.ntmps7
  go_wp2_with fail
  refine (unhide HR).mono ?_
  rintro e w1 ⟨rfl, hB⟩
  have HB := hide hB
  clear hB
  go_wp2_with fail
  go_ret2
  exact ⟨rfl, unhide HB⟩

end Go.Proofs.YtdaneedflpfeaaaGreatDoor
