import Derived.Test.YtabafeckdclekaaDistD
namespace Go.Proofs.Ytabafeckdclekaa
set_option maxRecDepth 100000
open Go.RowKit

/-- Numbers in memory. -/
structure IA (w : World) (g n : Nat) (f : Nat → Nat) : Prop where
  lt : g < w.heap.size
  at_ : ∀ j, j < n → w.cell? ⟨g, j, none⟩ = some (.int .i64 (f j : Int))
theorem IA.below {w w' : World} {g n B : Nat} {f : Nat → Nat} (h : IA w g n f) (hb : Below B w w') (hB : g < B) : IA w' g n f :=
  ⟨by have := hb.size; have := h.lt; omega, fun j hj => (cell_heap (hb.block g hB)).trans (h.at_ j hj)⟩
def endsV (f : Nat → Nat) (k : Nat) : List Value := (List.range k).map fun j => .int .i64 (f j : Int)
theorem endsV_succ (f : Nat → Nat) (k : Nat) : endsV f (k + 1) = endsV f k ++ [.int .i64 (f k : Int)] := by
  unfold endsV; rw [List.range_succ, List.map_append, List.map_singleton]
theorem IA.of_own {w : World} {B g n cap : Nat} {f : Nat → Nat} (h : w.ownsRow B 3 1 (.slice (some ⟨g, 0, none⟩) n cap) n (endsV f n)) (hg : g < w.heap.size) : IA w g n f :=
  ⟨hg, fun j hj => by
    have := h.cells (g := g) rfl j (.int .i64 (f j : Int)) (by simp [endsV, hj])
    have e : (⟨g, 0, none⟩ : Addr).add j = ⟨g, j, none⟩ := by unfold Addr.add; split <;> simp_all
    rw [e] at this; exact this⟩

set_option maxHeartbeats 1600000 in
theorem subtreeEnds_any (l : List Nd) (g cap : Nat) (w : World) (hl : l.length ≤ 10000) (hn : NA w g 0 l) :
    Calls Try.prog 48 #[.slice (some ⟨g, 0, none⟩) l.length cap] w fun e w' => Below w.heap.size w w' ∧ ∃ v, e = .returned v ∧ w'.ownsRow w.heap.size 3 1 v l.length (endsV (subE l) l.length) := by
  obtain ⟨i0, hi, hz0, hz1, hz2⟩ := info_parts Try.infoInt
  have HN := hide hn
  have hgl := hn.lt
  clear hn
  go_enter Try.func48, Try.ntmps48
  go_wp2_with fail
  go_loopw [3, 4, 5, 8] (fun v _ _ i wr => ∃ k : Nat, k ≤ l.length ∧ i = .int .i64 k ∧ wr.ownsRow w.heap.size 3 1 v k (endsV (subE l) k) ∧ Below w.heap.size w wr) (fun _ _ _ i _ => l.length - (intOf i).toNat)
  case atStart => exact ⟨0, Nat.zero_le _, rfl, World.ownsRow_nil _ _ _ _, Below.refl _ _⟩
  case round =>
    obtain ⟨k, hk, rfl, hown, hB⟩ := hrel
    have HO := hide hown
    have HB := hide hB
    have hsz := hB.size
    clear hown hB
    by_cases hlt : k < l.length
    · have HC : Hid (Calls Try.prog 69 #[.slice (some ⟨g, 0, none⟩) l.length cap, .int .i64 (k : Int)] wr fun e w' => e = .returned (.int .i64 (subE l k : Int)) ∧ Below wr.heap.size wr w') := subtreeEnd_any l k g cap wr (by omega) hlt ((unhide HN).below (unhide HB) hgl)
      have HS := hide (endsV_succ (subE l) k)
      have hle := subE_le hlt
      generalize subE l k = x at *
      go_wp2_with fail
      refine (unhide HC).mono ?_
      rintro e w1 ⟨rfl, hB1⟩
      have HB1 : Hid (Below w.heap.size w w1) := (unhide HB).trans (hB1.mono hsz)
      have HO1 := hide (row_below (unhide HO) (fun j hj => ((unhide HO).lt j hj).2) hB1)
      have hsz1 := hB1.size
      clear hB1
      go_wp2_with (first
        | (at_builtin; refine wpList_append_lies _ rfl (.tmp 14) (.tmp 16) 35 rfl w.heap.size 3 i0 (.int .i64 0) 1 8 Try.underlying35 hi hz0 hz1 hz2 rfl (by decide) _ k (endsV (subE l) k) rfl ((unhide HO1).alloc _) ⟨w1.heap.size, 0, none⟩ 1 1 [.int .i64 (x : Int)] rfl rfl (news_of (heap_alloc_new _ _)) (by intro u hu; simp at hu; subst hu; rfl) (by decide) (by unfold maxLen; omega) (by omega) (by simp; omega) _ rfl ?_)
        | fail)
      intro g2 cap2 w2 hown2 hgrow _ hlt2
      have HB2 : Hid (Below w.heap.size w w2) := ((unhide HB1).alloc (by omega) _).grown hgrow (by simp; omega) (fun j hj => ((unhide HO1).lt j hj).1)
      have HO2 := hide hown2
      clear hown2 hgrow
      go_wp2_with fail
      go_roundw
      case rel => exact ⟨k + 1, by omega, by go_num, by rw [unhide HS]; exact unhide HO2, unhide HB2⟩
      case measure => simp [intOf]; omega
    · have hkl : k = l.length := by omega
      subst hkl
      go_wp2_with fail
      go_ret
      exact ⟨unhide HB, _, rfl, unhide HO⟩

def lab (n : Nd) : Bool × ByteArray := (n.inner, n.text)
theorem isAlike_any (x y : Nd) (w : World) : Calls Try.prog 84 #[.agg #[.bool x.inner, .string x.text, .int .i64 x.depth], .agg #[.bool y.inner, .string y.text, .int .i64 y.depth]] w fun e w' => e = .returned (.bool (decide (lab x = lab y))) ∧ Below w.heap.size w w' := by
  have HF : Hid (decide (lab x = lab y) = (x.inner == y.inner && x.text.toList == y.text.toList)) := by
    show _ = _
    have e : (x.text = y.text) ↔ (x.text.toList = y.text.toList) := ⟨fun h => by rw [h], ba_same⟩
    simp only [lab, Prod.mk.injEq, e]
    by_cases h1 : x.inner = y.inner <;> by_cases h2 : x.text.toList = y.text.toList <;> simp [h1, h2]
  go_enter Try.func84, Try.ntmps84
  by_cases h1 : x.inner = y.inner
  · have h1' : (x.inner == y.inner) = true := by simp [h1]
    go_wp2_with fail
    go_ret
    exact ⟨ret_bool (by rw [unhide HF]; simp [h1']), ((Below.refl _ _).alloc (Nat.le_refl _) _).alloc (by simp) _⟩
  · have h1' : (x.inner == y.inner) = false := by simp [h1]
    go_wp2_with fail
    go_ret
    exact ⟨ret_bool (by rw [unhide HF]; simp [h1']), ((Below.refl _ _).alloc (Nat.le_refl _) _).alloc (by simp) _⟩

/-- The fewest steps if the one becomes the other. -/
def prd (F : Nat → Nat → Int) (L M : List Nd) (u v : Nat) : Int := match L[u]?, M[v]? with
  | some x, some y => F u v + (Dist.rel (lab x) (lab y) : Int)
  | _, _ => 0
/-- A comparison in memory. -/
def cmpV (gf cf lf gt ct lt ge ce gu cu gb cb : Nat) : Value := .agg #[.slice (some ⟨gf, 0, none⟩) lf cf, .slice (some ⟨gt, 0, none⟩) lt ct, .slice (some ⟨ge, 0, none⟩) lf ce, .slice (some ⟨gu, 0, none⟩) lt cu, .slice (some ⟨gb, 0, none⟩) lf cb]
/-- What paired reads. -/
abbrev PairS (w : World) (x y : Nd) (gf cf lf gt ct lt gb cb : Nat) (h : Nat → Nat) (F : Nat → Nat → Int) (u v : Nat) (wq : World) : Prop :=
  wq.cell? ⟨w.heap.size, 0, none⟩ = some (.slice (some ⟨gf, 0, none⟩) lf cf) ∧ wq.cell? ⟨w.heap.size, 1, none⟩ = some (.slice (some ⟨gt, 0, none⟩) lt ct) ∧ wq.cell? ⟨w.heap.size, 4, none⟩ = some (.slice (some ⟨gb, 0, none⟩) lf cb) ∧
  wq.cell? ⟨gf, u * 3, none⟩ = some (.bool x.inner) ∧ wq.cell? ⟨gf, u * 3 + 1, none⟩ = some (.string x.text) ∧ wq.cell? ⟨gf, u * 3 + 2, none⟩ = some (.int .i64 x.depth) ∧
  wq.cell? ⟨gt, v * 3, none⟩ = some (.bool y.inner) ∧ wq.cell? ⟨gt, v * 3 + 1, none⟩ = some (.string y.text) ∧ wq.cell? ⟨gt, v * 3 + 2, none⟩ = some (.int .i64 y.depth) ∧
  wq.cell? ⟨gb, u, none⟩ = some (.slice (some ⟨h u, 0, none⟩) lt lt) ∧ wq.cell? ⟨h u, v, none⟩ = some (.int .i64 (F u v))
set_option maxHeartbeats 1600000 in
theorem paired_any (L M : List Nd) (gf cf gt ct ge ce gu cu gb cb B : Nat) (h : Nat → Nat) (F : Nat → Nat → Int) (u v : Nat) (w : World) (hu : u < L.length) (hv : v < M.length) (hL : NA w gf 0 L) (hM : NA w gt 0 M)
    (hT : Tab w B gb L.length M.length h F) (hF : 0 ≤ F u v ∧ F u v ≤ 1000000) :
    Calls Try.prog 71 #[cmpV gf cf L.length gt ct M.length ge ce gu cu gb cb, .int .i64 (u : Int), .int .i64 (v : Int)] w fun e w' => e = .returned (.int .i64 (prd F L M u v)) ∧ Below w.heap.size w w' := by
  obtain ⟨x, hx⟩ : ∃ x, L[u]? = some x := ⟨_, List.getElem?_eq_getElem hu⟩
  obtain ⟨y, hy⟩ : ∃ y, M[v]? = some y := ⟨_, List.getElem?_eq_getElem hv⟩
  have HP : Hid (prd F L M u v = F u v + (Dist.rel (lab x) (lab y) : Int)) := by show prd F L M u v = _; rw [prd, hx, hy]
  have HKEY : Hid (∀ wq : World, (∀ i, i < w.heap.size + 1 → wq.heap[i]? = (w.alloc (.cells #[.slice (some ⟨gf, 0, none⟩) L.length cf, .slice (some ⟨gt, 0, none⟩) M.length ct, .slice (some ⟨ge, 0, none⟩) L.length ce, .slice (some ⟨gu, 0, none⟩) M.length cu, .slice (some ⟨gb, 0, none⟩) L.length cb] 73 (0, 0))).heap[i]?) → PairS w x y gf cf L.length gt ct M.length gb cb h F u v wq) := fun wq hq => by
    have hk := (hq w.heap.size (by omega)).trans (heap_alloc_new _ _)
    have hold : ∀ i, i < w.heap.size → wq.heap[i]? = w.heap[i]? := fun i hi => (hq i (by omega)).trans (heap_alloc_old _ _ hi)
    obtain ⟨x0, x1, x2⟩ := (hL.heap (hold _ hL.lt)).cell0 hx
    obtain ⟨y0, y1, y2⟩ := (hM.heap (hold _ hM.lt)).cell0 hy
    have c := fun j v hj => cell_of_row wq w.heap.size j _ _ (0, 0) hk |>.trans (show (#[Value.slice (some ⟨gf, 0, none⟩) L.length cf, .slice (some ⟨gt, 0, none⟩) M.length ct, .slice (some ⟨ge, 0, none⟩) L.length ce, .slice (some ⟨gu, 0, none⟩) M.length cu, .slice (some ⟨gb, 0, none⟩) L.length cb] : Array Value)[j]? = some v from hj)
    exact ⟨c 0 _ rfl, c 1 _ rfl, c 4 _ rfl, x0, x1, x2, y0, y1, y2, (cell_heap (hold gb hT.lt)).trans (hT.outer u hu), (cell_heap (hold _ (hT.row u hu).lt)).trans (hT.cell hu hv)⟩
  have HS0 := hide (unhide HKEY (w.alloc (.cells #[.slice (some ⟨gf, 0, none⟩) L.length cf, .slice (some ⟨gt, 0, none⟩) M.length ct, .slice (some ⟨ge, 0, none⟩) L.length ce, .slice (some ⟨gu, 0, none⟩) M.length cu, .slice (some ⟨gb, 0, none⟩) L.length cb] 73 (0, 0))).drew (fun i _ => rfl))
  generalize prd F L M u v = R at *
  unfold cmpV
  have HA := hide (isAlike_any x y)
  by_cases hr : lab x = lab y
  · have hR : decide (lab x = lab y) = true := by simp [hr]
    have HR : Hid (R = F u v) := by show R = _; rw [unhide HP, Dist.rel, if_pos hr]; simp
    rw [hR] at HA
    clear HP hT hL hM hx hy hr hR
    go_enter Try.func71, Try.ntmps71
    go_wp2_with fail
    go_region_held3 (PairS w x y gf cf L.length gt ct M.length gb cb h F u v) (first | exact unhide HS0 | exact unhide HS5) (first | (go_at_call 84; refine (unhide HA _).mono ?_; rintro e w5 ⟨rfl, hB5⟩; have HB5 : Hid (Below w.heap.size w w5) := (((Below.refl w.heap.size w).alloc (Nat.le_refl _) _).drew).trans (hB5.mono (by simp)); have HS5 := hide (unhide HKEY w5 (fun i hi => hB5.block i (by simpa using hi))); clear hB5))
    obtain ⟨c0, c1, c4, _, _, _, _, _, _, t0, t1⟩ := unhide HS5
    go_wp2_with fail
    go_ret
    exact ⟨ret_int (by rw [unhide HR]), unhide HB5⟩
  · have hR : decide (lab x = lab y) = false := by simp [hr]
    have HR : Hid (R = F u v + 1) := by show R = _; rw [unhide HP, Dist.rel, if_neg hr]; simp
    rw [hR] at HA
    clear HP hT hL hM hx hy hr hR
    go_enter Try.func71, Try.ntmps71
    go_wp2_with fail
    go_region_held3 (PairS w x y gf cf L.length gt ct M.length gb cb h F u v) (first | exact unhide HS0 | exact unhide HS5) (first | (go_at_call 84; refine (unhide HA _).mono ?_; rintro e w5 ⟨rfl, hB5⟩; have HB5 : Hid (Below w.heap.size w w5) := (((Below.refl w.heap.size w).alloc (Nat.le_refl _) _).drew).trans (hB5.mono (by simp)); have HS5 := hide (unhide HKEY w5 (fun i hi => hB5.block i (by simpa using hi))); clear hB5))
    obtain ⟨c0, c1, c4, _, _, _, _, _, _, t0, t1⟩ := unhide HS5
    go_wp2_with fail
    go_ret
    exact ⟨ret_int (by rw [unhide HR]), unhide HB5⟩

end Go.Proofs.Ytabafeckdclekaa
