import Derived.Test.YtdaneedflpfeaaaKeepA
import Derived.Test.YtdaneedflpfeaaaLossEnd
namespace Go.Proofs.Ytdaneedflpfeaaa
set_option maxRecDepth 100000
open Go.RowKit

/-- The leaves' texts, of labels. -/
def leafP (l : List (Bool × ByteArray)) : List UInt8 := l.flatMap fun p => if p.1 then [] else p.2.data.toList
theorem leafN_lab (l : List Rw) : leafN ((nodeR kProgram l).map (toNd 0)) = leafP (l.map labW) := by
  rw [leafN_rows, leafT_node]
  induction l with
  | nil => rfl
  | cons x l ih =>
    simp only [cat, leafT, leafP, List.map_cons, List.flatMap_cons, List.filterMap_cons] at *
    rw [← ih]
    cases hx : x.inner <;> simp [labW, hx]
/-- A program's leaves are its text. -/
theorem text_leaves {s : ByteArray} {l : List Rw} (h : outT s = .ok ((nodeR kProgram l).map (toNd 0))) : leafP (l.map labW) = s.data.toList := by
  obtain ⟨l0, j, _, hp, e, _, _⟩ := outT_mod h
  rw [← leafN_lab, e, leafN_rows]
  exact parse_cat hp
theorem ba_data {a b : ByteArray} (h : a.data.toList = b.data.toList) : a = b := ByteArray.ext (Array.toList_inj.mp h)
theorem dlR_zero {l m : List Rw} (h : dlR l m = 0) : l.map labW = m.map labW := by
  have := (Dist.dl_zero _ _).1 h
  rw [← foW_pre l, ← foW_pre m, this]
theorem dlR_self (l : List Rw) : dlR l l = 0 := (Dist.dl_zero _ _).2 rfl
theorem dlR_symm (l m : List Rw) : dlR l m = dlR m l := Dist.dl_symm _ _
theorem dlR_tri (l m k : List Rw) : dlR l m ≤ dlR l k + dlR k m := Dist.dl_tri _ _ _
theorem dlR_same {l m : List Rw} (h : l.map rdeep = m.map rdeep) : dlR l m ≤ partsN (l.map labW) (m.map labW) := Dist.dl_le (ed_same rdeep labW _ l m (Nat.le_refl _) h)
theorem dlR_le (l m : List Rw) : dlR l m ≤ l.length + m.length := by
  have := dl_size (foW l) (foW m)
  unfold foW at this
  rw [Dist.map_size, Dist.map_size, Dist.fo_size _ _ _ (Nat.le_refl _), Dist.fo_size _ _ _ (Nat.le_refl _)] at this
  exact this
/-- A text that is a program, and its rows. -/
structure Prg (s : ByteArray) (l : List Rw) : Prop where
  out : outT s = .ok ((nodeR kProgram l).map (toNd 0))
  len : l.length ≤ 79
  rc : RC 0 l
  few : 1 ≤ l.length
  small : ∀ x ∈ l, x.deep ≤ 1000 ∧ x.text.size ≤ 1000
theorem prg_of {s : ByteArray} {nodes : List Nd} (h : outT s = .ok nodes) : ∃ l, Prg s l := by
  obtain ⟨l, rfl, h1, h2, h3, h4⟩ := ok_rows h
  exact ⟨l, h, h3, h1, h2, h4⟩
theorem Prg.dist {a b : ByteArray} {l m : List Rw} (h : Prg a l) (h' : Prg b m) : distT a b = ((dlR l m : Int), 0) := by
  rw [distT, h.out]
  simp only [h'.out]
  rw [dB_rows]
theorem Prg.ok {s : ByteArray} {l : List Rw} (h : Prg s l) : isOk (outT s) = true := by rw [h.out]; rfl
theorem not_prg {s : ByteArray} (h : isOk (outT s) = false) : ∀ l, ¬ Prg s l := fun l hl => by rw [hl.ok] at h; cases h
theorem isOk_prg {s : ByteArray} (h : isOk (outT s) = true) : ∃ l, Prg s l := by
  cases ho : outT s with
  | err c p => rw [ho] at h; cases h
  | ok nodes => exact prg_of ho
theorem Prg.zero {a b : ByteArray} {l m : List Rw} (h : Prg a l) (h' : Prg b m) : dlR l m = 0 ↔ a = b := by
  constructor
  · intro hz
    apply ba_data
    rw [← text_leaves h.out, ← text_leaves h'.out, dlR_zero hz]
  · rintro rfl
    have e := h.out.symm.trans h'.out
    have e2 : ((dlR l m : Nat) : Int) = (dlR l l : Int) := by
      rw [← dB_rows, ← dB_rows]
      injection e with e
      rw [e]
    rw [dlR_self] at e2
    omega
def voidG : ByteArray := ⟨#[118, 111, 105, 100, 32, 103, 40, 41, 123, 125]⟩
/-- The rows of a function that does nothing, by its name and what stands in its block. -/
def voidR (nm : ByteArray) (m : List Rw) : List Rw :=
  ⟨0, true, ⟨#[102, 117, 110, 99, 116, 105, 111, 110]⟩⟩ :: ⟨1, false, ⟨#[118, 111, 105, 100]⟩⟩ :: ⟨1, false, nm⟩ :: ⟨1, false, ⟨#[40]⟩⟩ :: ⟨1, false, ⟨#[41]⟩⟩ :: ⟨1, true, ⟨#[98, 108, 111, 99, 107]⟩⟩ :: ⟨2, false, ⟨#[123]⟩⟩ :: (m ++ [⟨2, false, ⟨#[125]⟩⟩, ⟨0, false, ⟨#[]⟩⟩])
theorem void_out : outF voidS = .ok ((nodeR kProgram (voidR ⟨#[32, 102]⟩ [])).map (toNd 0)) := by kernel_rfl
theorem voidG_out : outF voidG = .ok ((nodeR kProgram (voidR ⟨#[32, 103]⟩ [])).map (toNd 0)) := by kernel_rfl
theorem toNd_inj {l m : List Rw} (h : l.map (toNd 0) = m.map (toNd 0)) : l = m := by
  induction l generalizing m with
  | nil => cases m with
    | nil => rfl
    | cons => simp at h
  | cons x l ih => cases m with
    | nil => simp at h
    | cons y m =>
      simp only [List.map_cons, List.cons.injEq] at h
      rw [ih h.2]
      have h1 := h.1
      unfold toNd at h1
      injection h1 with a1 a2 a3
      cases x; cases y
      simp only at a1 a2 a3
      simp only [List.cons.injEq, Rw.mk.injEq, and_true]
      exact ⟨by omega, a1, a2⟩
theorem up_inj {l m : List Rw} (h : l.map Rw.up = m.map Rw.up) : l = m := by
  induction l generalizing m with
  | nil => cases m with
    | nil => rfl
    | cons => simp at h
  | cons x l ih => cases m with
    | nil => simp at h
    | cons y m =>
      simp only [List.map_cons, List.cons.injEq] at h
      rw [ih h.2]
      have h1 := h.1
      cases x; cases y
      simp only [Rw.up, Rw.mk.injEq] at h1
      simp only [List.cons.injEq, Rw.mk.injEq, and_true]
      exact ⟨by omega, h1.2.1, h1.2.2⟩
/-- What the rows of a program are. -/
theorem prg_is {s : ByteArray} {l : List Rw} (h : outT s = .ok ((nodeR kProgram l).map (toNd 0))) : Prg s l := by
  obtain ⟨m, hm⟩ := prg_of h
  have e := hm.out.symm.trans h
  injection e with e
  have e2 := toNd_inj e
  unfold nodeR at e2
  injection e2 with _ e3
  rw [← up_inj e3]
  exact hm
theorem Prg.one {s : ByteArray} {l m : List Rw} (h : Prg s l) (h' : Prg s m) : l = m := by
  have e := h.out.symm.trans h'.out
  injection e with e
  have e2 := toNd_inj e
  unfold nodeR at e2
  injection e2 with _ e3
  exact up_inj e3
theorem void_prg : Prg voidS (voidR ⟨#[32, 102]⟩ []) := prg_is (by rw [outT_F]; exact void_out)
theorem voidG_prg : Prg voidG (voidR ⟨#[32, 103]⟩ []) := prg_is (by rw [outT_F]; exact voidG_out)
theorem void_dist : distT voidS voidG = (1, 0) := by
  rw [void_prg.dist voidG_prg]
  have h1 : dlR (voidR ⟨#[32, 102]⟩ []) (voidR ⟨#[32, 103]⟩ []) ≤ 1 := by
    have := dlR_same (l := voidR ⟨#[32, 102]⟩ []) (m := voidR ⟨#[32, 103]⟩ []) (by decide)
    have e : partsN ((voidR ⟨#[32, 102]⟩ []).map labW) ((voidR ⟨#[32, 103]⟩ []).map labW) = 1 := by decide
    omega
  have h2 : dlR (voidR ⟨#[32, 102]⟩ []) (voidR ⟨#[32, 103]⟩ []) ≠ 0 := fun h => by
    have := (void_prg.zero voidG_prg).1 h
    revert this
    decide
  congr 1
  omega

set_option maxHeartbeats 800000 in
theorem alive_any (w : World) : Calls Try.prog 12 #[] w fun e w' => e = .returned (.bool true) ∧ Below w.heap.size w w' := by
  have HD : Hid (Calls Try.prog 13 #[.string ⟨#[118, 111, 105, 100, 32, 102, 40, 41, 123, 125]⟩, .string ⟨#[118, 111, 105, 100, 32, 103, 40, 41, 123, 125]⟩] w fun e w' => e = .returned (.tuple #[.int .i64 1, .int .i64 0]) ∧ Below w.heap.size w w') := by
    have := dist_any voidS voidG w
    rw [void_dist] at this
    exact this
  have HP : Hid (∀ w1, Calls Try.prog 9 #[.string ⟨#[118, 111, 105, 100, 32, 102, 40, 41, 123, 125]⟩] w1 fun e w' => e = .returned (.bool true) ∧ Below w1.heap.size w1 w') := fun w1 => by
    have := program_any voidS w1
    rw [void_ok] at this
    exact this
  go_enter Try.func12, Try.ntmps12
  go_wp2_with fail
  refine (unhide HD).mono ?_
  rintro e w1 ⟨rfl, hB1⟩
  have HB1 := hide hB1
  clear hB1
  go_wp2_with fail
  refine (unhide HP _).mono ?_
  rintro e w2 ⟨rfl, hB2⟩
  have HB2 := hide ((unhide HB1).trans (hB2.mono (unhide HB1).size))
  clear hB2
  go_wp2_with fail
  go_ret
  exact ⟨rfl, unhide HB2⟩

set_option maxHeartbeats 3200000 in
theorem metric_any (a b c : ByteArray) (w : World) : Calls Try.prog 4 #[.string a, .string b, .string c] w fun e w' => e = .returned (.bool true) ∧ Below w.heap.size w w' := by
  have HAL := hide (alive_any w)
  have HP : Hid (∀ s w1, Calls Try.prog 9 #[.string s] w1 fun e w' => e = .returned (.bool (isOk (outT s))) ∧ Below w1.heap.size w1 w') := fun s w1 => program_any s w1
  have HD : Hid (∀ s t w1, Calls Try.prog 13 #[.string s, .string t] w1 fun e w' => e = .returned (.tuple #[.int .i64 (distT s t).1, .int .i64 (distT s t).2]) ∧ Below w1.heap.size w1 w') := fun s t w1 => dist_any s t w1
  go_enter Try.func4, Try.ntmps4
  go_wp2_with fail
  refine (unhide HAL).mono ?_
  rintro e w1 ⟨rfl, hB1⟩
  have HB1 := hide hB1
  clear hB1 HAL
  go_wp2_with fail
  refine (unhide HP a _).mono ?_
  rintro e w2 ⟨rfl, hB2⟩
  have HB2 := hide ((unhide HB1).trans (hB2.mono (unhide HB1).size))
  clear hB2 HB1
  cases ha : isOk (outT a) with
  | false =>
    clear ha
    go_wp2_with fail
    go_ret
    exact ⟨rfl, unhide HB2⟩
  | true =>
    obtain ⟨la, hla⟩ := isOk_prg ha
    have HLA := hide hla
    clear ha hla
    go_wp2_with fail
    refine (unhide HP b _).mono ?_
    rintro e w3 ⟨rfl, hB3⟩
    have HB3 := hide ((unhide HB2).trans (hB3.mono (unhide HB2).size))
    clear hB3 HB2
    cases hb : isOk (outT b) with
    | false =>
      clear hb
      go_wp2_with fail
      go_ret
      exact ⟨rfl, unhide HB3⟩
    | true =>
      obtain ⟨lb, hlb⟩ := isOk_prg hb
      have HLB := hide hlb
      clear hb hlb
      go_wp2_with fail
      refine (unhide HP c _).mono ?_
      rintro e w4 ⟨rfl, hB4⟩
      have HB4 := hide ((unhide HB3).trans (hB4.mono (unhide HB3).size))
      clear hB4 HB3
      cases hc : isOk (outT c) with
      | false =>
        clear hc
        go_wp2_with fail
        go_ret
        exact ⟨rfl, unhide HB4⟩
      | true =>
        obtain ⟨lc, hlc⟩ := isOk_prg hc
        have HLC := hide hlc
        clear hc hlc
        have hx : distT a b = ((dlR la lb : Int), 0) := (unhide HLA).dist (unhide HLB)
        have hy : distT b a = ((dlR la lb : Int), 0) := by rw [(unhide HLB).dist (unhide HLA), dlR_symm]
        have hz : distT a c = ((dlR la lc : Int), 0) := (unhide HLA).dist (unhide HLC)
        have hu : distT c b = ((dlR lc lb : Int), 0) := (unhide HLC).dist (unhide HLB)
        have htri := dlR_tri la lb lc
        have hzero := (unhide HLA).zero (unhide HLB)
        have l1 := dlR_le la lb
        have l2 := dlR_le la lc
        have l3 := dlR_le lc lb
        have m1 := (unhide HLA).len
        have m2 := (unhide HLB).len
        have m3 := (unhide HLC).len
        have HX := hide hx
        have HY := hide hy
        have HZ := hide hz
        have HU := hide hu
        clear hx hy hz hu HLA HLB HLC
        generalize dlR la lb = x at *
        generalize dlR la lc = z at *
        generalize dlR lc lb = u at *
        have hx : x ≤ 200 := by omega
        have hz : z ≤ 200 := by omega
        have hu : u ≤ 200 := by omega
        clear l1 l2 l3 m1 m2 m3
        have HXZ : Hid (((x : Int) == 0) = (a.toList == b.toList)) := by
          show _ = _
          by_cases h : a = b
          · have := hzero.2 h
            subst h
            simp [this]
          · have h0 : x ≠ 0 := fun e => h (hzero.1 e)
            have h1 : a.toList ≠ b.toList := fun e => h (ba_same e)
            rw [beq_eq_false_iff_ne.2 (show (x : Int) ≠ 0 by omega), beq_eq_false_iff_ne.2 h1]
        clear hzero
        go_wp2_with fail
        refine (unhide HD a b _).mono ?_
        rw [unhide HX]
        rintro e w5 ⟨rfl, hB5⟩
        have HB5 := hide ((unhide HB4).trans (hB5.mono (unhide HB4).size))
        clear hB5 HB4
        go_wp2_with fail
        refine (unhide HD b a _).mono ?_
        rw [unhide HY]
        rintro e w6 ⟨rfl, hB6⟩
        have HB6 := hide ((unhide HB5).trans (hB6.mono (unhide HB5).size))
        clear hB6 HB5
        go_wp2_with fail
        refine (unhide HD a c _).mono ?_
        rw [unhide HZ]
        rintro e w7 ⟨rfl, hB7⟩
        have HB7 := hide ((unhide HB6).trans (hB7.mono (unhide HB6).size))
        clear hB7 HB6
        go_wp2_with fail
        refine (unhide HD c b _).mono ?_
        rw [unhide HU]
        rintro e w8 ⟨rfl, hB8⟩
        have HB8 := hide ((unhide HB7).trans (hB8.mono (unhide HB7).size))
        clear hB8 HB7
        have hxz := unhide HXZ
        generalize hE : (a.toList == b.toList) = E at *
        cases E with
        | true =>
          go_wp2_with fail
          go_ret
          exact ⟨ret_bool (by simp), unhide HB8⟩
        | false =>
          go_wp2_with fail
          go_ret
          exact ⟨ret_bool (by simp), unhide HB8⟩

end Go.Proofs.Ytdaneedflpfeaaa
