import Derived.Test.YtdaneedflpfeaaaPure2
import Derived.Test.YtdaneedflpfeaaaEval
namespace Go.Proofs.Ytdaneedflpfeaaa
set_option maxRecDepth 100000
open Go.RowKit

/-- What read answers of a text, so that it can be computed. -/
def outF (s : ByteArray) : ROut :=
  if 600 < s.size then .err 1 0 else match parseT (scanT s) with
  | some (.fail j) => .err 2 (placeA (scanT s) j)
  | some (.ok l _) => if 20 < innerD (l.map (toNd 0)) then .err 3 0 else if 80 < l.length then .err 4 0 else .ok (l.map (toNd 0))
  | none => .err 0 0
theorem outT_F (s : ByteArray) : outT s = outF s := by unfold outT outF; rw [scanL_T]; rfl
theorem void_ok : isOk (outT voidS) = true := by rw [outT_F]; decide

theorem kinds_fine (g : G) : ∀ kd ∈ kindsOf (body g), ∀ c ∈ kd.data.toList, c ≠ 39 ∧ c ≠ 40 ∧ c ≠ 41 := by
  have h : (kindsOf (body g)).all (fun kd => kd.data.toList.all fun c => decide (c ≠ 39 ∧ c ≠ 40 ∧ c ≠ 41)) = true := by cases g <;> decide
  intro kd hk c hc
  exact of_decide_eq_true (List.all_eq_true.1 (List.all_eq_true.1 h kd hk) c hc)

theorem WF_rows (m : List Rw) : ∀ o : Nat, RC o m → (∀ x ∈ m, x.inner = true → ∀ c ∈ x.text.data.toList, c ≠ 39 ∧ c ≠ 40 ∧ c ≠ 41) → WF (o + 1) (m.map (toNd 1)) := by
  induction m with
  | nil => intro o _ _; trivial
  | cons x m ih =>
    intro o h hk
    refine ⟨by show (1 : Int) ≤ 1 + (x.deep : Int); omega, by have := h.1; show 1 + (x.deep : Int) ≤ (o : Int) + 1; omega, hk x (by simp), ?_⟩
    have := ih _ h.2 (fun y hy => hk y (by simp [hy]))
    cases hx : x.inner with
    | true =>
      rw [hx] at this
      simp only [if_true] at this
      show WF (if x.inner = true then 1 + (x.deep : Int) + 1 else 1 + (x.deep : Int)) _
      rw [hx, if_pos rfl, show 1 + (x.deep : Int) + 1 = ((x.deep + 1 : Nat) : Int) + 1 from by omega]
      exact this
    | false =>
      rw [hx] at this
      simp only [Bool.false_eq_true, if_false] at this
      show WF (if x.inner = true then 1 + (x.deep : Int) + 1 else 1 + (x.deep : Int)) _
      rw [hx, if_neg Bool.false_ne_true, Int.add_comm]
      exact this
theorem leafN_rows (d : Int) (m : List Rw) : leafN (m.map (toNd d)) = cat (leafT m) := by
  induction m with
  | nil => rfl
  | cons x m ih =>
    simp only [leafN, cat, leafT, List.map_cons, List.flatMap_cons, List.filterMap_cons] at *
    rw [ih]
    cases hx : x.inner <;> simp [toNd, hx]

theorem written_all {s : ByteArray} {l : List Nd} (h : outT s = .ok l) :
    (mk (writtenL l)).size ≤ 1000000000 ∧ 1 ≤ (mk (writtenL l)).size ∧ (∀ k, 0 < k → k < (mk (writtenL l)).size → 0 < brk ((mk (writtenL l)).data.toList.take k)) ∧ brk (mk (writtenL l)).data.toList = 0 ∧ mk (outL (mk (writtenL l)) 1) = s := by
  obtain ⟨r, j, hs, hp, rfl, hlen, hmod⟩ := outT_mod h
  have hkind := propG (scanL s 0) (fun x => x.inner = true → ∀ c ∈ x.text.data.toList, c ≠ 39 ∧ c ≠ 40 ∧ c ≠ 41) (fun x h => h) (fun t ht h => by cases h) (fun g kd hk _ => kinds_fine g kd hk) _ _ _ _ _ hp
  have sh := shG _ _ _ _ _ _ hp
  have hcat := parse_cat hp
  obtain ⟨l1, l2, k, hr, _, _⟩ := parseT_node hp
  have hl1 := wAcc_len _ hmod
  have ho1 := wAcc_open hmod
  have hsz : (mk (writtenL (r.map (toNd 0)))).size = (writtenL (r.map (toNd 0))).length := rfl
  have hsz2 : (writtenL (r.map (toNd 0))).length ≤ 1000000000 := by
    unfold writtenL
    rw [List.length_append, parens, List.length_replicate]
    rw [List.length_map] at hl1
    omega
  generalize hm : l1 ++ l2 = m at hr
  subst hr
  rw [map_node] at hsz hsz2 ⊢
  have hWF : WF 1 (m.map (toNd 1)) := by
    have hrc : RC 0 m := by
      have h2 := sh.rc.2
      simp only [if_true] at h2
      clear hkind hmod hl1 ho1 hsz hsz2 hp h hlen hcat sh hm
      have key : ∀ (q : List Rw) (o : Nat), RC (o + 1) (q.map Rw.up) → RC o q := by
        intro q
        induction q with
        | nil => intro o _; trivial
        | cons x q ih =>
          intro o hq
          refine ⟨by have := hq.1; have e : x.up.deep = x.deep + 1 := rfl; omega, ih _ ?_⟩
          have := hq.2
          cases hx : x.inner <;> simpa [Rw.up, hx] using this
      exact key m 0 h2
    have := WF_rows m 0 hrc (fun x hx hi c hc => hkind x.up (by simp only [nodeR, List.mem_cons, List.mem_map]; exact .inr ⟨x, hx, rfl⟩) hi c hc)
    exact this
  have hw : writtenL ((⟨true, kProgram, 0⟩ : Nd) :: m.map (toNd 1)) = 40 :: 64 :: kProgram.data.toList ++ Wl 1 (m.map (toNd 1)) := written_W _ _ rfl rfl
  have e01 : (0 : Int) + 1 = 1 := rfl
  rw [e01] at hsz hsz2 ⊢
  have hd : (mk (writtenL ((⟨true, kProgram, 0⟩ : Nd) :: m.map (toNd 1)))).data.toList = writtenL ((⟨true, kProgram, 0⟩ : Nd) :: m.map (toNd 1)) := rfl
  obtain ⟨B, hB, hS, hE⟩ := Wl_stay (m.map (toNd 1)) 1 (by omega) hWF
  have hflat := Stay.flat (o := 1) (by omega) (a := 64 :: kProgram.data.toList) (by decide)
  have hS2 : Stay 0 (40 :: (64 :: kProgram.data.toList ++ B)) := by
    refine ⟨by decide, ?_⟩
    show Stay 1 _
    refine hflat.1.append ?_
    rw [hflat.2]; exact hS
  have hb2 : brk (40 :: (64 :: kProgram.data.toList ++ B)) = 1 := by
    have e : brk (40 :: (64 :: kProgram.data.toList ++ B)) = brkB 40 + brk (64 :: kProgram.data.toList ++ B) := by simp [brk]
    have e40 : brkB 40 = 1 := rfl
    rw [e, brk_append, hflat.2, e40]; omega
  have hwB : writtenL ((⟨true, kProgram, 0⟩ : Nd) :: m.map (toNd 1)) = 40 :: (64 :: kProgram.data.toList ++ B) ++ [41] := by rw [hw, hB]; simp
  refine ⟨by rw [hsz]; exact hsz2, by rw [hsz, hw]; simp, ?_, ?_, ?_⟩
  · intro k hk1 hk2
    rw [hd, hwB]
    rw [hsz, hwB] at hk2
    have hk3 : k ≤ (40 :: (64 :: kProgram.data.toList ++ B)).length := by rw [List.length_append] at hk2; simp only [List.length_singleton] at hk2; omega
    rw [List.take_append_of_le_length hk3]
    have := hS2.take k hk1 hk3
    omega
  · rw [hd, hwB, brk_append, hb2]; rfl
  · have h1 := outL_W (t := mk (writtenL ((⟨true, kProgram, 0⟩ : Nd) :: m.map (toNd 1)))) (m.map (toNd 1)) (40 :: 64 :: kProgram.data.toList) 1 (by omega) hWF (by rw [hd, hw])
    have h2 := outL_skip (t := mk (writtenL ((⟨true, kProgram, 0⟩ : Nd) :: m.map (toNd 1)))) (64 :: kProgram.data.toList) (A := [40]) (R := Wl 1 (m.map (toNd 1))) (by rw [hd, hw]; rfl) (by decide)
    have h3 : outL (mk (writtenL ((⟨true, kProgram, 0⟩ : Nd) :: m.map (toNd 1)))) 1 = leafN (m.map (toNd 1)) := by
      have e : ([40] : List UInt8).length = 1 := rfl
      rw [e] at h2
      rw [h2]; exact h1
    rw [h3, leafN_rows, ← leafT_node kProgram, hcat, mk_data]

theorem lossless_any (s : ByteArray) (w : World) : Calls Try.prog 3 #[.string s] w fun e w' => e = .returned (.bool true) ∧ Below w.heap.size w w' := by
  cases ho : outT s with
  | err c p => exact lossless_err s c p w void_ok ho
  | ok l =>
    obtain ⟨h1, h2, h3, h4, h5⟩ := written_all ho
    refine lossless_ok s (mk (writtenL l)) w void_ok (fun wx => ?_) h1 h2 h3 h4 h5
    have := show_any s wx
    rw [show showT s = .returned (.tuple #[.string (mk (writtenL l)), .int .i64 0, .int .i64 0]) from by simp [showT, ho]] at this
    exact this

end Go.Proofs.Ytdaneedflpfeaaa
