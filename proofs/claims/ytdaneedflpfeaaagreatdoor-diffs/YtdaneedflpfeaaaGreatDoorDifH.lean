import Derived.Test.YtdaneedflpfeaaaGreatDoorDifC
import Derived.Test.YtdaneedflpfeaaaGreatDoorDistI
namespace Go.Proofs.YtdaneedflpfeaaaGreatDoor
set_option maxRecDepth 100000
open Go.RowKit

/-! ## Which nodes become which: the program's two arrays -/
/-- All but two blocks are as they were. -/
structure Oth (w w' : World) (gF gT : Nat) : Prop where
  os : w'.os = w.os
  tape : w'.tape = w.tape
  output : w'.output = w.output
  size : w.heap.size ≤ w'.heap.size
  block : ∀ k, k < w.heap.size → k ≠ gF → k ≠ gT → w'.heap[k]? = w.heap[k]?
theorem Oth.refl (w : World) (gF gT : Nat) : Oth w w gF gT := ⟨rfl, rfl, rfl, Nat.le_refl _, fun _ _ _ _ => rfl⟩
theorem Oth.trans {a b c : World} {gF gT : Nat} (h : Oth a b gF gT) (k : Oth b c gF gT) : Oth a c gF gT :=
  ⟨k.os.trans h.os, k.tape.trans h.tape, k.output.trans h.output, Nat.le_trans h.size k.size, fun i hi h1 h2 => (k.block i (Nat.lt_of_lt_of_le hi h.size) h1 h2).trans (h.block i hi h1 h2)⟩
theorem Oth.of {w w' : World} (h : Below w.heap.size w w') (gF gT : Nat) : Oth w w' gF gT := ⟨h.os, h.tape, h.output, h.size, fun k hk _ _ => h.block k hk⟩
theorem Oth.below {w w' : World} {gF gT B : Nat} (h : Oth w w' gF gT) (hB : B ≤ w.heap.size) (hF : B ≤ gF) (hT : B ≤ gT) : Below B w w' := ⟨h.os, h.tape, h.output, h.size, fun k hk => h.block k (by omega) (by omega) (by omega)⟩
theorem Oth.set {w w' : World} {gF gT : Nat} (h : Oth w w' gF gT) {a : Addr} (ha : a.block = gF ∨ a.block = gT) (u : Value) : Oth w (w'.setCell a u) gF gT :=
  ⟨h.os, h.tape, h.output, by rw [Go.Deep.nblk_setCell]; exact h.size, fun k hk h1 h2 => (Below.heap_setCell _ _ _ _ (by rcases ha with q | q <;> omega)).trans (h.block k hk h1 h2)⟩
theorem Oth.drew {w w' : World} {gF gT : Nat} (h : Oth w w' gF gT) : Oth w w'.drew gF gT := ⟨h.os, h.tape, h.output, h.size, h.block⟩
theorem Tab.oth {w w' : World} {B g R C gF gT : Nat} {h : Nat → Nat} {f : Nat → Nat → Int} (t : Tab w B g R C h f) (hb : Oth w w' gF gT) (hF : gF < B) (hT : gT < B) : Tab w' B g R C h f where
  base := t.base
  lt := by have := hb.size; have := t.lt; omega
  outer r hr := (cell_heap (hb.block g t.lt (by have := t.base; omega) (by have := t.base; omega))).trans (t.outer r hr)
  row r hr := (t.row r hr).of_block (hb.block _ (t.row r hr).lt (by have := (t.rb r hr).1; omega) (by have := (t.rb r hr).1; omega))
  rb := t.rb
  inj := t.inj
def parO (gF nF gT nT : Nat) : Obj := .cells #[.slice (some ⟨gF, 0, none⟩) nF nF, .slice (some ⟨gT, 0, none⟩) nT nT] 70 (0, 0)
/-- The two arrays, as they are handed. -/
def parV (gF nF gT nT : Nat) : Value := .agg #[.slice (some ⟨gF, 0, none⟩) nF nF, .slice (some ⟨gT, 0, none⟩) nT nT]
def intsF (f : Nat → Nat) : Nat → Value := fun c => .int .i64 (f c : Int)
theorem par_cells {wq : World} {b gF nF gT nT : Nat} (h : wq.heap[b]? = some (parO gF nF gT nT)) : wq.cell? ⟨b, 0, none⟩ = some (.slice (some ⟨gF, 0, none⟩) nF nF) ∧ wq.cell? ⟨b, 1, none⟩ = some (.slice (some ⟨gT, 0, none⟩) nT nT) := by
  unfold parO at h
  refine ⟨?_, ?_⟩ <;> (rw [cell_of_row wq b _ _ _ (0, 0) h]; rfl)
/-- A call's two boxes, and all that lies below them. -/
theorem two_boxes {w wq : World} {a b : Obj} (h : Below (w.heap.size + 2) ((w.alloc a).alloc b) wq) : wq.heap[w.heap.size]? = some a ∧ wq.heap[w.heap.size + 1]? = some b ∧ Below w.heap.size w wq := by
  have e1 : ((w.alloc a).alloc b).heap[w.heap.size]? = some a := (heap_alloc_old _ _ (by simp)).trans (heap_alloc_new _ _)
  have e2 : ((w.alloc a).alloc b).heap[w.heap.size + 1]? = some b := by
    have := heap_alloc_new (w.alloc a) b
    simpa using this
  refine ⟨(h.block _ (by omega)).trans e1, (h.block _ (by omega)).trans e2, ?_⟩
  exact (((Below.refl w.heap.size w).alloc (Nat.le_refl _) a).alloc (by simp) b).trans (h.mono (by omega))
/-- The two arrays, and the box that holds them. -/
structure PA (W : World) (nF nT gF gT bp : Nat) (w : World) (mf mt : Nat → Nat) : Prop where
  base : Below W.heap.size W w
  rF : w.rowIs gF 3 nF (intsF mf)
  rT : w.rowIs gT 3 nT (intsF mt)
  box : w.heap[bp]? = some (parO gF nF gT nT)
structure PC (W : World) (gF gT bp : Nat) : Prop where
  f : W.heap.size ≤ gF
  t : W.heap.size ≤ gT
  b : W.heap.size ≤ bp
  ft : gF ≠ gT
  bf : bp ≠ gF
  bt : bp ≠ gT
theorem PA.all {W : World} {nF nT gF gT bp : Nat} {w w' : World} {mf mt : Nat → Nat} (h : PA W nF nT gF gT bp w mf mt) (hb : Below w.heap.size w w') : PA W nF nT gF gT bp w' mf mt where
  base := h.base.trans (hb.mono h.base.size)
  rF := h.rF.of_block (hb.block _ h.rF.lt)
  rT := h.rT.of_block (hb.block _ h.rT.lt)
  box := (hb.block bp (Array.getElem?_eq_some_iff.1 h.box).1).trans h.box
theorem PA.setF {W : World} {nF nT gF gT bp : Nat} (hc : PC W gF gT bp) {w : World} {mf mt : Nat → Nat} (h : PA W nF nT gF gT bp w mf mt) (i v : Nat) : PA W nF nT gF gT bp (w.setCell ⟨gF, i, none⟩ (.int .i64 (v : Int))) (fun c => if c = i then v else mf c) mt where
  base := h.base.setCell (p := ⟨gF, i, none⟩) hc.f _
  rF := (h.rF.set i (.int .i64 (v : Int))).congr fun c _ => by
    by_cases q : c = i
    · simp [q, intsF]
    · simp [q, intsF]
  rT := h.rT.setOther (a := ⟨gF, i, none⟩) (fun e => hc.ft e.symm) _
  box := (Below.heap_setCell _ _ _ _ hc.bf).trans h.box
theorem PA.setT {W : World} {nF nT gF gT bp : Nat} (hc : PC W gF gT bp) {w : World} {mf mt : Nat → Nat} (h : PA W nF nT gF gT bp w mf mt) (i v : Nat) : PA W nF nT gF gT bp (w.setCell ⟨gT, i, none⟩ (.int .i64 (v : Int))) mf (fun c => if c = i then v else mt c) where
  base := h.base.setCell (p := ⟨gT, i, none⟩) hc.t _
  rF := h.rF.setOther (a := ⟨gT, i, none⟩) hc.ft _
  rT := (h.rT.set i (.int .i64 (v : Int))).congr fun c _ => by
    by_cases q : c = i
    · simp [q, intsF]
    · simp [q, intsF]
  box := (Below.heap_setCell _ _ _ _ hc.bt).trans h.box
theorem PA.draw {W : World} {nF nT gF gT bp : Nat} {w : World} {mf mt : Nat → Nat} (h : PA W nF nT gF gT bp w mf mt) : PA W nF nT gF gT bp w.drew mf mt := ⟨h.base.drew, h.rF, h.rT, h.box⟩

end Go.Proofs.YtdaneedflpfeaaaGreatDoor

namespace Go.Proofs.YtdaneedflpfeaaaGreatDoor
set_option maxRecDepth 100000
open Go.RowKit

/-! ## How the table is followed -/
theorem pm_go {L M : List Nd} {mf mt : Nat → Nat} {a b a' b' : Nat} (h1 : a < b) (hz : mf a = 0) (e : dN L M a b a' b' = dN L M (a + 1) b a' b' + 1) (h : PM L M mf mt (a + 1) b a' b' (dSn L M (a + 1) b a' b')) : PM L M mf mt a b a' b' (dSn L M a b a' b') :=
  (PM.del h1 hz h).cast (by unfold dN at e; unfold dSn; omega)
theorem pm_come {L M : List Nd} {mf mt : Nat → Nat} {a b a' b' : Nat} (h1 : a' < b') (hz : mt a' = 0) (e : dN L M a b a' b' = dN L M a b (a' + 1) b' + 1) (h : PM L M mf mt a b (a' + 1) b' (dSn L M a b (a' + 1) b')) : PM L M mf mt a b a' b' (dSn L M a b a' b') :=
  (PM.ins h1 hz h).cast (by unfold dN at e; unfold dSn; omega)
theorem pm_mat {L M : List Nd} {mf mt : Nat → Nat} {a b a' b' : Nat} (ha : a < L.length) (ha' : a' < M.length) (h0 : 0 < a) (h0' : 0 < a') (m1 : mf a = a') (m2 : mt a' = a) (s1 : subE L a ≤ b) (s2 : subE M a' ≤ b')
    (e1 : dN L M a b a' b' ≠ dN L M (a + 1) b a' b' + 1) (e2 : dN L M a b a' b' ≠ dN L M a b (a' + 1) b' + 1)
    (p1 : PM L M mf mt (a + 1) (subE L a) (a' + 1) (subE M a') (dSn L M (a + 1) (subE L a) (a' + 1) (subE M a'))) (p2 : PM L M mf mt (subE L a) b (subE M a') b' (dSn L M (subE L a) b (subE M a') b')) : PM L M mf mt a b a' b' (dSn L M a b a' b') := by
  have hx : L[a]? = some L[a] := List.getElem?_eq_getElem ha
  have hy : M[a']? = some M[a'] := List.getElem?_eq_getElem ha'
  have hs := Dist.dS_step (h := lab) (subE_sub ha) (subE_sub ha') s1 s2 hx hy
  refine (PM.mat h0 h0' hx hy m1 m2 s1 s2 p1 p2).cast ?_
  unfold dN at e1 e2
  unfold dSn
  omega
theorem pm_end {L M : List Nd} {mf mt : Nat → Nat} {b a' b' : Nat} (hz : ∀ j, a' ≤ j → j < b' → mt j = 0) (h1 : a' ≤ b') (h2 : b ≤ L.length) (h3 : b' ≤ M.length) : PM L M mf mt b b a' b' (dSn L M b b a' b') :=
  (PM.come hz h1 h2 h3).cast (Dist.dS_end _ _ _ _ _ _ _ h3).symm
theorem pm_end' {L M : List Nd} {mf mt : Nat → Nat} {a b b' : Nat} (hz : ∀ j, a ≤ j → j < b → mf j = 0) (h1 : a ≤ b) (h2 : b ≤ L.length) (h3 : b' ≤ M.length) : PM L M mf mt a b b' b' (dSn L M a b b' b') :=
  (PM.go hz h1 h2 h3).cast (Dist.dS_end' _ _ _ _ _ _ _ h2).symm

/-- What pairBelow has done. -/
def PairR (W w : World) (L M : List Nd) (gF gT bp k l : Nat) (mf mt : Nat → Nat) (e : Ending) (w' : World) : Prop := e = .returned (.tuple #[]) ∧ Oth w w' gF gT ∧ ∃ mf' mt', PA W L.length M.length gF gT bp w' mf' mt' ∧ (∀ i, (i ≤ k ∨ subE L k ≤ i) → mf' i = mf i) ∧ (∀ j, (j ≤ l ∨ subE M l ≤ j) → mt' j = mt j) ∧ PM L M mf' mt' (k + 1) (subE L k) (l + 1) (subE M l) (dSn L M (k + 1) (subE L k) (l + 1) (subE M l))

set_option maxHeartbeats 12800000 in
theorem pairBelow_any (L M : List Nd) (gf cf gt ct ge ce gu cu gb cb B : Nat) (hb : Nat → Nat) (Fb : Nat → Nat → Int) (gF gT bp : Nat) (W : World) (hLl : L.length ≤ 1000) (hMl : M.length ≤ 1000)
    (hc : Cmp W L M gf gt ge gu gb B hb Fb) (hF : ∀ u v, u < L.length → v < M.length → Fb u v = dB L M u v) (hP : PC W gF gT bp) :
    ∀ (n k l : Nat) (mf mt : Nat → Nat) (w : World), subE L k - k ≤ n → k < L.length → l < M.length → PA W L.length M.length gF gT bp w mf mt → (∀ i, k < i → i < subE L k → mf i = 0) → (∀ j, l < j → j < subE M l → mt j = 0) →
      Calls Tryz.prog 36 #[.pointer (some ⟨bp, 0, none⟩), cmpV gf cf L.length gt ct M.length ge ce gu cu gb cb, .int .i64 (k : Int), .int .i64 (l : Int)] w fun e w' => PairR W w L M gF gT bp k l mf mt e w' := by
  intro n
  induction n with
  | zero => intro k l mf mt w hn hk hl; have := subE_le hk; omega
  | succ n ih =>
    intro k l mf mt w hn hk hl hpa hzf hzt
    have IH := hide ih
    clear ih
    have h1 := subE_le hk
    have h2 := subE_le hl
    have HPA := hide hpa
    have HZF := hide hzf
    have HZT := hide hzt
    have HC := hide hc
    have HF := hide hF
    have HPC := hide hP
    have hFl : gF < w.heap.size := hpa.rF.lt
    have hTl : gT < w.heap.size := hpa.rT.lt
    have hpl : bp < w.heap.size := (Array.getElem?_eq_some_iff.1 hpa.box).1
    -- what every later world holds
    have HST : Hid (∀ wx, Below w.heap.size w wx → Calls Tryz.prog 58 #[cmpV gf cf L.length gt ct M.length ge ce gu cu gb cb, .int .i64 (k : Int), .int .i64 (l : Int)] wx fun e w' => StepsR wx L M k l e w') := fun wx hx =>
      stepsBelow_any L M gf cf gt ct ge ce gu cu gb cb B hb Fb k l wx hk hl hLl hMl (hc.heap (hpa.base.trans (hx.mono hpa.base.size))) (fun u v _ h3 _ h4 => hF u v h3 h4)
    clear hc hF hP hpa hzf hzt
    have HAL := hide ((Below.refl w.heap.size w).alloc (Nat.le_refl _) (cmpO gf cf L.length gt ct M.length ge ce gu cu gb cb))
    have HNEW : Hid ((w.alloc (cmpO gf cf L.length gt ct M.length ge ce gu cu gb cb)).heap[w.heap.size]? = some (cmpO gf cf L.length gt ct M.length ge ce gu cu gb cb)) := heap_alloc_new _ _
    have HSZ0 : Hid ((w.alloc (cmpO gf cf L.length gt ct M.length ge ce gu cu gb cb)).heap.size = w.heap.size + 1) := by show _ = _; simp
    obtain ⟨c0, c1, c2, c3, c4⟩ := cmp_cells (unhide HNEW)
    unfold cmpV at *
    unfold cmpO at *
    go_enter Tryz.func36, Tryz.ntmps36
    go_wp2_with fail
    refine (unhide HST _ (unhide HAL)).mono ?_
    rintro e w1 ⟨hB1, g, cap, h, F, rfl, hT, hFV⟩
    clear c0 c1 c2 c3 c4
    rw [unhide HSZ0] at hB1 hT
    have HBX : Hid (w1.heap[w.heap.size]? = some (.cells #[.slice (some ⟨gf, 0, none⟩) L.length cf, .slice (some ⟨gt, 0, none⟩) M.length ct, .slice (some ⟨ge, 0, none⟩) L.length ce, .slice (some ⟨gu, 0, none⟩) M.length cu, .slice (some ⟨gb, 0, none⟩) L.length cb] 67 (0, 0))) := (hB1.block _ (by omega)).trans (unhide HNEW)
    have hB01 : Below w.heap.size w w1 := (unhide HAL).trans (hB1.mono (by omega))
    have hsz1 := hB01.size
    have HB01 := hide hB01
    have HPA1 := hide ((unhide HPA).all hB01)
    have HT := hide hT
    have HFV := hide hFV
    -- what every later world reads
    have HKEY : Hid (∀ wr mf' mt', Oth w1 wr gF gT → PA W L.length M.length gF gT bp wr mf' mt' → (wr.cell? ⟨w.heap.size, 0, none⟩ = some (.slice (some ⟨gf, 0, none⟩) L.length cf) ∧ wr.cell? ⟨w.heap.size, 1, none⟩ = some (.slice (some ⟨gt, 0, none⟩) M.length ct) ∧ wr.cell? ⟨w.heap.size, 2, none⟩ = some (.slice (some ⟨ge, 0, none⟩) L.length ce) ∧ wr.cell? ⟨w.heap.size, 3, none⟩ = some (.slice (some ⟨gu, 0, none⟩) M.length cu) ∧ wr.cell? ⟨w.heap.size, 4, none⟩ = some (.slice (some ⟨gb, 0, none⟩) L.length cb)) ∧ IA wr ge L.length (subE L) ∧ IA wr gu M.length (subE M) ∧ Tab wr (w.heap.size + 1) g (subE L k - k - 1 + 1) (subE M l - l - 1 + 1) h F ∧ (wr.cell? ⟨bp, 0, none⟩ = some (.slice (some ⟨gF, 0, none⟩) L.length L.length) ∧ wr.cell? ⟨bp, 1, none⟩ = some (.slice (some ⟨gT, 0, none⟩) M.length M.length))) := fun wr mf' mt' ho hp => by
      have hbx := (ho.block w.heap.size (by have := (Array.getElem?_eq_some_iff.1 (unhide HBX)).1; omega) (by omega) (by omega)).trans (unhide HBX)
      have hcl := cmp_cells hbx
      have hcm := (unhide HC).heap hp.base
      exact ⟨hcl, hcm.fe, hcm.te, (unhide HT).oth ho (by omega) (by omega), par_cells hp.box⟩
    clear hT hFV hB1 hB01 HST HNEW HSZ0 HAL
    generalize hR : subE L k - k - 1 = R at *
    generalize hC : subE M l - l - 1 = C at *
    go_wp2_with fail
    go_loopw [9, 10, 11] (fun f t _ wr => ∃ (a c : Nat) (mf' mt' : Nat → Nat), k < a ∧ a ≤ subE L k ∧ l < c ∧ c ≤ subE M l ∧ f = .int .i64 (a : Int) ∧ t = .int .i64 (c : Int) ∧ Hid (PA W L.length M.length gF gT bp wr mf' mt') ∧ Hid (Oth w1 wr gF gT) ∧ Hid (∀ i, (i ≤ k ∨ a ≤ i) → mf' i = mf i) ∧ Hid (∀ j, (j ≤ l ∨ c ≤ j) → mt' j = mt j) ∧
        Hid (∀ m2 t2 : Nat → Nat, (∀ i, k < i → i < a → m2 i = mf' i) → (∀ j, l < j → j < c → t2 j = mt' j) → PM L M m2 t2 a (subE L k) c (subE M l) (dSn L M a (subE L k) c (subE M l)) → PM L M m2 t2 (k + 1) (subE L k) (l + 1) (subE M l) (dSn L M (k + 1) (subE L k) (l + 1) (subE M l))))
      (fun f t _ _ => (subE L k - (intOf f).toNat) + (subE M l - (intOf t).toNat))
    case atStart => exact ⟨k + 1, l + 1, mf, mt, by omega, by omega, by omega, by omega, by go_num, by go_num, HPA1, Oth.refl _ _ _, fun i _ => rfl, fun j _ => rfl, fun m2 t2 _ _ hp => hp⟩
    case round =>
      obtain ⟨a, c, mf', mt', ha1, ha2, hc1, hc2, rfl, rfl, HPR, HOR, HMF, HMT, HCONT⟩ := hrel
      obtain ⟨⟨c0, c1, c2, c3, c4⟩, hfe, hte, hTr, b0, b1⟩ := unhide HKEY wr mf' mt' (unhide HOR) (unhide HPR)
      have i1 := hfe.at_ k hk
      have i2 := hte.at_ l hl
      by_cases hlt : a < subE L k
      · by_cases hlt2 : c < subE M l
        · obtain ⟨i, rfl⟩ : ∃ i, a = k + 1 + i := ⟨a - k - 1, by omega⟩
          obtain ⟨j, rfl⟩ : ∃ j, c = l + 1 + j := ⟨c - l - 1, by omega⟩
          have hi : i < R := by omega
          have hj : j < C := by omega
          have t0 := hTr.outer i (by omega)
          have t1 := hTr.outer (i + 1) (by omega)
          have t2 := hTr.cell (r := i) (c := j) (by omega) (by omega)
          have t3 := hTr.cell (r := i + 1) (c := j) (by omega) (by omega)
          have t4 := hTr.cell (r := i) (c := j + 1) (by omega) (by omega)
          have f2 : F i j = dN L M (k + 1 + i) (subE L k) (l + 1 + j) (subE M l) := unhide HFV i j (by omega) (by omega)
          have f3 : F (i + 1) j = dN L M (k + 1 + i + 1) (subE L k) (l + 1 + j) (subE M l) := unhide HFV (i + 1) j (by omega) (by omega)
          have f4 : F i (j + 1) = dN L M (k + 1 + i) (subE L k) (l + 1 + j + 1) (subE M l) := unhide HFV i (j + 1) (by omega) (by omega)
          rw [f2] at t2
          rw [f3] at t3
          rw [f4] at t4
          have e1 : ((k + 1 + i : Nat) : Int) - (k : Int) = (i : Int) + 1 := by omega
          have e2 : ((l + 1 + j : Nat) : Int) - (l : Int) = (j : Int) + 1 := by omega
          have v2 := dN_le L M (k + 1 + i) (subE L k) (l + 1 + j) (subE M l) h1.2 h2.2
          have v3 := dN_le L M (k + 1 + i + 1) (subE L k) (l + 1 + j) (subE M l) h1.2 h2.2
          have v4 := dN_le L M (k + 1 + i) (subE L k) (l + 1 + j + 1) (subE M l) h1.2 h2.2
          have hz1 : mf' (k + 1 + i) = 0 := (unhide HMF _ (.inr (Nat.le_refl _))).trans (unhide HZF _ ha1 hlt)
          have hz2 : mt' (l + 1 + j) = 0 := (unhide HMT _ (.inr (Nat.le_refl _))).trans (unhide HZT _ hc1 hlt2)
          clear hfe hte hTr f2 f3 f4
          by_cases q1 : dN L M (k + 1 + i) (subE L k) (l + 1 + j) (subE M l) = dN L M (k + 1 + i + 1) (subE L k) (l + 1 + j) (subE M l) + 1
          · have q1' : (dN L M (k + 1 + i) (subE L k) (l + 1 + j) (subE M l) == dN L M (k + 1 + i + 1) (subE L k) (l + 1 + j) (subE M l) + 1) = true := by simp [q1]
            have HC2 : Hid (∀ m2 t2 : Nat → Nat, (∀ i', k < i' → i' < k + 1 + i + 1 → m2 i' = mf' i') → (∀ j', l < j' → j' < l + 1 + j → t2 j' = mt' j') → PM L M m2 t2 (k + 1 + i + 1) (subE L k) (l + 1 + j) (subE M l) (dSn L M (k + 1 + i + 1) (subE L k) (l + 1 + j) (subE M l)) → PM L M m2 t2 (k + 1) (subE L k) (l + 1) (subE M l) (dSn L M (k + 1) (subE L k) (l + 1) (subE M l))) := fun m2 t2 g1 g2 hp =>
              unhide HCONT m2 t2 (fun i' a1 a2 => g1 i' a1 (by omega)) g2 (pm_go hlt ((g1 _ ha1 (by omega)).trans hz1) q1 hp)
            have HMF2 : Hid (∀ i', (i' ≤ k ∨ k + 1 + i + 1 ≤ i') → mf' i' = mf i') := fun i' hi' => unhide HMF i' (by omega)
            clear HCONT HMF q1 hz1 hz2
            generalize dN L M (k + 1 + i) (subE L k) (l + 1 + j) (subE M l) = d2 at *
            generalize dN L M (k + 1 + i + 1) (subE L k) (l + 1 + j) (subE M l) = d3 at *
            generalize dN L M (k + 1 + i) (subE L k) (l + 1 + j + 1) (subE M l) = d4 at *
            generalize hga : k + 1 + i = a at *
            generalize hgc : l + 1 + j = c at *
            go_wp2_with fail
            go_roundw
            case rel => exact ⟨a + 1, c, mf', mt', by omega, by omega, hc1, hc2, by go_num, rfl, HPR, HOR, HMF2, HMT, HC2⟩
            case measure => simp [intOf]; omega
          · have q1' : (dN L M (k + 1 + i) (subE L k) (l + 1 + j) (subE M l) == dN L M (k + 1 + i + 1) (subE L k) (l + 1 + j) (subE M l) + 1) = false := by simp [q1]
            by_cases q2 : dN L M (k + 1 + i) (subE L k) (l + 1 + j) (subE M l) = dN L M (k + 1 + i) (subE L k) (l + 1 + j + 1) (subE M l) + 1
            · have q2' : (dN L M (k + 1 + i) (subE L k) (l + 1 + j) (subE M l) == dN L M (k + 1 + i) (subE L k) (l + 1 + j + 1) (subE M l) + 1) = true := by simp [q2]
              have HC2 : Hid (∀ m2 t2 : Nat → Nat, (∀ i', k < i' → i' < k + 1 + i → m2 i' = mf' i') → (∀ j', l < j' → j' < l + 1 + j + 1 → t2 j' = mt' j') → PM L M m2 t2 (k + 1 + i) (subE L k) (l + 1 + j + 1) (subE M l) (dSn L M (k + 1 + i) (subE L k) (l + 1 + j + 1) (subE M l)) → PM L M m2 t2 (k + 1) (subE L k) (l + 1) (subE M l) (dSn L M (k + 1) (subE L k) (l + 1) (subE M l))) := fun m2 t2 g1 g2 hp =>
                unhide HCONT m2 t2 g1 (fun j' a1 a2 => g2 j' a1 (by omega)) (pm_come hlt2 ((g2 _ hc1 (by omega)).trans hz2) q2 hp)
              have HMT2 : Hid (∀ j', (j' ≤ l ∨ l + 1 + j + 1 ≤ j') → mt' j' = mt j') := fun j' hj' => unhide HMT j' (by omega)
              clear HCONT HMT q1 q2 hz1 hz2
              generalize dN L M (k + 1 + i) (subE L k) (l + 1 + j) (subE M l) = d2 at *
              generalize dN L M (k + 1 + i + 1) (subE L k) (l + 1 + j) (subE M l) = d3 at *
              generalize dN L M (k + 1 + i) (subE L k) (l + 1 + j + 1) (subE M l) = d4 at *
              generalize hga : k + 1 + i = a at *
              generalize hgc : l + 1 + j = c at *
              go_wp2_with fail
              go_roundw
              case rel => exact ⟨a, c + 1, mf', mt', ha1, ha2, by omega, by omega, rfl, by go_num, HPR, HOR, HMF, HMT2, HC2⟩
              case measure => simp [intOf]; omega
            · have q2' : (dN L M (k + 1 + i) (subE L k) (l + 1 + j) (subE M l) == dN L M (k + 1 + i) (subE L k) (l + 1 + j + 1) (subE M l) + 1) = false := by simp [q2]
              have hLa : k + 1 + i < L.length := by omega
              have hMc : l + 1 + j < M.length := by omega
              have s1 := subE_le hLa
              have s2 := subE_le hMc
              have n1 := (subE_sub hLa).inside (subE_sub hk) ha1 hlt
              have n2 := (subE_sub hMc).inside (subE_sub hl) hc1 hlt2
              generalize hga : k + 1 + i = a at *
              generalize hgc : l + 1 + j = c at *
              have HMAT : Hid (∀ m2 t2 : Nat → Nat, m2 a = c → t2 c = a → PM L M m2 t2 (a + 1) (subE L a) (c + 1) (subE M c) (dSn L M (a + 1) (subE L a) (c + 1) (subE M c)) → PM L M m2 t2 (subE L a) (subE L k) (subE M c) (subE M l) (dSn L M (subE L a) (subE L k) (subE M c) (subE M l)) → PM L M m2 t2 a (subE L k) c (subE M l) (dSn L M a (subE L k) c (subE M l))) := fun m2 t2 r1 r2 r3 r4 => pm_mat hLa hMc (by omega) (by omega) r1 r2 n1 n2 q1 q2 r3 r4
              clear q1 q2 hz1 hz2
              -- the two arrays' new entries
              have x1 := (unhide HPR).rF.cell (i := a) hLa
              have x2 := (unhide HPR).rF.frozen a
              have p1 := (unhide HPR).setF (unhide HPC) a c
              have o1 := (unhide HOR).set (a := ⟨gF, a, none⟩) (.inl rfl) (.int .i64 (c : Int))
              have y1 := p1.rT.cell (i := c) hMc
              have y2 := p1.rT.frozen c
              obtain ⟨⟨y3, y4, y5, y6, y7⟩, _, _, _, y8, y9⟩ := unhide HKEY _ _ _ o1 p1
              have p2 := p1.setT (unhide HPC) c a
              have o2 := o1.set (a := ⟨gT, c, none⟩) (.inr rfl) (.int .i64 (a : Int))
              obtain ⟨⟨z3, z4, z5, z6, z7⟩, _, _, _, z8, z9⟩ := unhide HKEY _ _ _ o2 p2
              unfold intsF at x1 y1
              have HP2 := hide p2
              have HO2 := hide o2
              have HIH : Hid (Calls Tryz.prog 36 #[.pointer (some ⟨bp, 0, none⟩), .agg #[.slice (some ⟨gf, 0, none⟩) L.length cf, .slice (some ⟨gt, 0, none⟩) M.length ct, .slice (some ⟨ge, 0, none⟩) L.length ce, .slice (some ⟨gu, 0, none⟩) M.length cu, .slice (some ⟨gb, 0, none⟩) L.length cb], .int .i64 (a : Int), .int .i64 (c : Int)] ((wr.setCell ⟨gF, a, none⟩ (.int .i64 (c : Int))).setCell ⟨gT, c, none⟩ (.int .i64 (a : Int))) fun e w' => PairR W ((wr.setCell ⟨gF, a, none⟩ (.int .i64 (c : Int))).setCell ⟨gT, c, none⟩ (.int .i64 (a : Int))) L M gF gT bp a c (fun q => if q = a then c else mf' q) (fun q => if q = c then a else mt' q) e w') :=
                unhide IH a c _ _ _ (by omega) hLa hMc p2 (fun i' a1 a2 => by
                  show (if i' = a then c else mf' i') = 0
                  rw [if_neg (by omega), unhide HMF i' (by omega)]
                  exact unhide HZF i' (by omega) (by omega)) (fun j' a1 a2 => by
                  show (if j' = c then a else mt' j') = 0
                  rw [if_neg (by omega), unhide HMT j' (by omega)]
                  exact unhide HZT j' (by omega) (by omega))
              clear p1 o1 p2 o2
              generalize dN L M a (subE L k) c (subE M l) = d2 at *
              generalize dN L M (a + 1) (subE L k) c (subE M l) = d3 at *
              generalize dN L M a (subE L k) (c + 1) (subE M l) = d4 at *
              go_wp2_with fail
              refine (unhide HIH).mono ?_
              rintro e w3 ⟨rfl, ho3, mf3, mt3, hp3, g1, g2, hpm3⟩
              have HO3 := hide ((unhide HO2).trans ho3)
              obtain ⟨⟨_, _, w2, w3', _⟩, hfe3, hte3, _, _⟩ := unhide HKEY _ _ _ (unhide HO3) hp3
              have j1 := hfe3.at_ a hLa
              have j2 := hte3.at_ c hMc
              have HP3 := hide hp3
              have HMF3 : Hid (∀ i', (i' ≤ k ∨ subE L a ≤ i') → mf3 i' = mf i') := fun i' hi' => by
                rw [g1 i' (by omega)]
                show (if i' = a then c else mf' i') = _
                rw [if_neg (by omega)]
                exact unhide HMF i' (by omega)
              have HMT3 : Hid (∀ j', (j' ≤ l ∨ subE M c ≤ j') → mt3 j' = mt j') := fun j' hj' => by
                rw [g2 j' (by omega)]
                show (if j' = c then a else mt' j') = _
                rw [if_neg (by omega)]
                exact unhide HMT j' (by omega)
              have HC3 : Hid (∀ m2 t2 : Nat → Nat, (∀ i', k < i' → i' < subE L a → m2 i' = mf3 i') → (∀ j', l < j' → j' < subE M c → t2 j' = mt3 j') → PM L M m2 t2 (subE L a) (subE L k) (subE M c) (subE M l) (dSn L M (subE L a) (subE L k) (subE M c) (subE M l)) → PM L M m2 t2 (k + 1) (subE L k) (l + 1) (subE M l) (dSn L M (k + 1) (subE L k) (l + 1) (subE M l))) := fun m2 t2 r1 r2 hp => by
                refine unhide HCONT m2 t2 (fun i' a1 a2 => ?_) (fun j' a1 a2 => ?_) (unhide HMAT m2 t2 ?_ ?_ (hpm3.congr (fun i' a1 a2 => r1 i' (by omega) a2) (fun j' a1 a2 => r2 j' (by omega) a2)) hp)
                · rw [r1 i' a1 (by omega), g1 i' (by omega)]
                  show (if i' = a then c else mf' i') = _
                  rw [if_neg (by omega)]
                · rw [r2 j' a1 (by omega), g2 j' (by omega)]
                  show (if j' = c then a else mt' j') = _
                  rw [if_neg (by omega)]
                · rw [r1 a ha1 (by omega), g1 a (by omega)]
                  show (if a = a then c else mf' a) = _
                  rw [if_pos rfl]
                · rw [r2 c hc1 (by omega), g2 c (by omega)]
                  show (if c = c then a else mt' c) = _
                  rw [if_pos rfl]
              clear ho3 hp3 g1 g2 hpm3 hfe3 hte3 HIH HP2 HO2 HCONT HMF HMT HPR HOR HMAT
              generalize subE L a = za at *
              generalize subE M c = zc at *
              go_wp2_with fail
              go_roundw
              case rel => exact ⟨za, zc, mf3, mt3, by omega, n1, by omega, n2, rfl, rfl, HP3, HO3, HMF3, HMT3, HC3⟩
              case measure => simp [intOf]; omega
        · have hce : c = subE M l := by omega
          clear hfe hte hTr
          have HPM : Hid (PM L M mf' mt' (k + 1) (subE L k) (l + 1) (subE M l) (dSn L M (k + 1) (subE L k) (l + 1) (subE M l))) := unhide HCONT mf' mt' (fun _ _ _ => rfl) (fun _ _ _ => rfl) (by
            rw [hce]
            exact pm_end' (fun i' a1 a2 => (unhide HMF i' (.inr a1)).trans (unhide HZF i' (by omega) a2)) ha2 h1.2 h2.2)
          clear HCONT
          go_wp2_with fail
          refine bodyPost_ret (results_none (by rfl) _ _ _) rfl ?_
          exact ⟨rfl, (Oth.of (unhide HB01) gF gT).trans (unhide HOR), mf', mt', unhide HPR, fun i' hi' => unhide HMF i' (by omega), fun j' hj' => unhide HMT j' (by omega), unhide HPM⟩
      · have hae : a = subE L k := by omega
        clear hfe hte hTr
        have HPM : Hid (PM L M mf' mt' (k + 1) (subE L k) (l + 1) (subE M l) (dSn L M (k + 1) (subE L k) (l + 1) (subE M l))) := unhide HCONT mf' mt' (fun _ _ _ => rfl) (fun _ _ _ => rfl) (by
          rw [hae]
          exact pm_end (fun j' a1 a2 => (unhide HMT j' (.inr a1)).trans (unhide HZT j' (by omega) a2)) hc2 h1.2 h2.2)
        clear HCONT
        go_wp2_with fail
        refine bodyPost_ret (results_none (by rfl) _ _ _) rfl ?_
        exact ⟨rfl, (Oth.of (unhide HB01) gF gT).trans (unhide HOR), mf', mt', unhide HPR, fun i' hi' => unhide HMF i' (by omega), fun j' hj' => unhide HMT j' (by omega), unhide HPM⟩

end Go.Proofs.YtdaneedflpfeaaaGreatDoor
