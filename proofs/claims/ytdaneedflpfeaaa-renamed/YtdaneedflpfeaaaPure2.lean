import Derived.Test.YtdaneedflpfeaaaPure1
import Derived.Test.YtdaneedflpfeaaaLoss
namespace Go.Proofs.Ytdaneedflpfeaaa
set_option maxRecDepth 100000
open Go.RowKit

theorem at_list {t : ByteArray} {A R : List UInt8} {c : UInt8} (h : t.data.toList = A ++ c :: R) : ∃ hlt : A.length < t.size, t[A.length] = c ∧ bt t A.length = (c.toNat : Int) := by
  have hs : t.size = t.data.toList.length := rfl
  have hlt : A.length < t.size := by rw [hs, h]; simp
  have he : t[A.length] = c := by
    have h2 : t.data.toList[A.length]? = some c := by rw [h]; simp
    have h3 : t.data.toList[A.length]? = some (t[A.length]) := by rw [List.getElem?_eq_getElem (by exact hlt)]; rfl
    rw [h3] at h2; exact Option.some.inj h2
  exact ⟨hlt, he, by rw [bt_in hlt, he]⟩

theorem plain_facts {c : UInt8} (h : plainB (c.toNat : Int) = true) : (c.toNat : Int) ≠ 32 ∧ (c.toNat : Int) ≠ 41 ∧ (c.toNat : Int) ≠ 92 ∧ (c.toNat : Int) ≠ 40 := by
  simp [plainB] at h; omega
theorem dec_all : ∀ q r : Fin 16, decB ((hexD q.val).toNat : Int) ((hexD r.val).toNat : Int) = UInt8.ofNat (16 * q.val + r.val) := by decide
theorem dec_hex (c : UInt8) : decB ((hexD (c.toNat / 16)).toNat : Int) ((hexD (c.toNat % 16)).toNat : Int) = c := by
  have hc := c.toNat_lt
  have := dec_all ⟨c.toNat / 16, by omega⟩ ⟨c.toNat % 16, by omega⟩
  simp only at this
  rw [this, show 16 * (c.toNat / 16) + c.toNat % 16 = c.toNat from by omega]
  exact UInt8.ofNat_toNat

theorem inL_dec (t : ByteArray) (x : List UInt8) (c : UInt8) (hc : c = 32 ∨ c = 41) : ∀ A R, t.data.toList = A ++ escL x ++ c :: R → inL t A.length = (x, (A ++ escL x).length) := by
  induction x with
  | nil =>
    intro A R h
    obtain ⟨hlt, _, hb⟩ := at_list (A := A) (c := c) (R := R) (by simpa [escL] using h)
    rw [inL, dif_neg]
    · simp [escL]
    · rw [hb]
      rintro ⟨_, h1, h2⟩
      rcases hc with rfl | rfl
      · exact h1 rfl
      · exact h2 rfl
  | cons b x ih =>
    intro A R h
    have he : escL (b :: x) = escB b ++ escL x := by simp [escL]
    rw [he] at h ⊢
    cases hp : plainB (b.toNat : Int) with
    | true =>
      have hb1 : escB b = [b] := by simp [escB, hp]
      rw [hb1] at h ⊢
      obtain ⟨hlt, h1, hb⟩ := at_list (A := A) (c := b) (R := escL x ++ c :: R) (by simpa using h)
      have hf := plain_facts hp
      have hi := ih (A ++ [b]) R (by simpa using h)
      rw [List.length_append] at hi
      simp only [List.length_cons, List.length_nil, Nat.zero_add] at hi
      rw [inL, dif_pos ⟨hlt, by rw [hb]; exact hf.1, by rw [hb]; exact hf.2.1⟩, if_neg (by rw [hb]; exact fun g => hf.2.2.1 g.1), hi, h1]
      simp
    | false =>
      have hb1 : escB b = [92, 120, hexD (b.toNat / 16), hexD (b.toNat % 16)] := by simp [escB, hp]
      rw [hb1] at h ⊢
      obtain ⟨hlt, _, q0⟩ := at_list (A := A) (c := 92) (R := [120, hexD (b.toNat / 16), hexD (b.toNat % 16)] ++ escL x ++ c :: R) (by simpa using h)
      obtain ⟨_, _, q2⟩ := at_list (A := A ++ [92, 120]) (c := hexD (b.toNat / 16)) (R := [hexD (b.toNat % 16)] ++ escL x ++ c :: R) (by simpa using h)
      obtain ⟨hlt3, _, q3⟩ := at_list (A := A ++ [92, 120, hexD (b.toNat / 16)]) (c := hexD (b.toNat % 16)) (R := escL x ++ c :: R) (by simpa using h)
      have hi := ih (A ++ [92, 120, hexD (b.toNat / 16), hexD (b.toNat % 16)]) R (by simpa using h)
      simp only [List.length_append, List.length_cons, List.length_nil, Nat.zero_add, Nat.reduceAdd] at hi q2 q3 hlt3
      rw [inL, dif_pos ⟨hlt, by rw [q0]; decide, by rw [q0]; decide⟩, if_pos ⟨by rw [q0]; rfl, hlt3⟩, q2, q3, hi, dec_hex]
      simp; omega

theorem outL_skip1 {t : ByteArray} {A R : List UInt8} {c : UInt8} (h : t.data.toList = A ++ c :: R) (hc : c ≠ 39) : outL t A.length = outL t (A.length + 1) := by
  obtain ⟨hlt, _, hb⟩ := at_list h
  rw [outL, dif_pos hlt, if_pos]
  left; rw [hb]; intro he; exact hc (UInt8.toNat_inj.1 (show c.toNat = 39 by omega))
theorem outL_skip {t : ByteArray} (M : List UInt8) : ∀ {A R : List UInt8}, t.data.toList = A ++ M ++ R → (∀ c ∈ M, c ≠ 39) → outL t A.length = outL t (A ++ M).length := by
  induction M with
  | nil => intro A R _ _; simp
  | cons c M ih =>
    intro A R h hm
    have h1 := outL_skip1 (A := A) (c := c) (R := M ++ R) (by simpa using h) (hm c (by simp))
    have h2 := ih (A := A ++ [c]) (R := R) (by simpa using h) (fun d hd => hm d (by simp [hd]))
    rw [h1, show A.length + 1 = (A ++ [c]).length from by simp, h2]
    simp
theorem outL_leaf {t : ByteArray} {A x R : List UInt8} {c : UInt8} (hc : c = 32 ∨ c = 41) (h : t.data.toList = A ++ [32, 39] ++ escL x ++ c :: R) :
    outL t (A ++ [32]).length = x ++ outL t ((A ++ [32, 39] ++ escL x).length + 1) := by
  obtain ⟨hlt, _, q1⟩ := at_list (A := A ++ [32]) (c := 39) (R := escL x ++ c :: R) (by simpa using h)
  obtain ⟨_, _, q0⟩ := at_list (A := A) (c := 32) (R := 39 :: escL x ++ c :: R) (by simpa using h)
  have hi := inL_dec t x c hc (A ++ [32, 39]) R h
  have e1 : (A ++ [32]).length - 1 = A.length := by simp
  have e2 : (A ++ [32]).length + 1 = (A ++ [32, 39]).length := by simp
  rw [outL, dif_pos hlt, if_neg, e2, hi]
  rw [q1, e1, q0]
  simp

/-- What is written behind the first node. -/
def Wl : Int → List Nd → List UInt8
  | o, [] => parens o.toNat
  | o, x :: l => parens (o - x.depth).toNat ++ [32] ++ (if x.inner then [40] else []) ++ labelL x ++ Wl (if x.inner then x.depth + 1 else x.depth) l
theorem foldl_W (l : List Nd) : ∀ (a : List UInt8) (o : Int), (l.foldl wStep (a, o, false)).1 ++ parens (l.foldl wStep (a, o, false)).2.1.toNat = a ++ Wl o l := by
  induction l with
  | nil => intro a o; rfl
  | cons x l ih =>
    intro a o
    rw [List.foldl_cons]
    have : wStep (a, o, false) x = (a ++ parens (o - x.depth).toNat ++ [32] ++ (if x.inner then [40] else []) ++ labelL x, if x.inner then x.depth + 1 else x.depth, false) := rfl
    rw [this, ih]
    simp [Wl]
theorem written_W (x : Nd) (l : List Nd) (hx : x.inner = true) (hd : x.depth = 0) : writtenL (x :: l) = 40 :: 64 :: x.text.data.toList ++ Wl 1 l := by
  unfold writtenL wAcc
  rw [List.foldl_cons]
  have : wStep ([], 0, true) x = (40 :: 64 :: x.text.data.toList, 1, false) := by simp [wStep, hx, hd, parens, labelL]
  rw [this, foldl_W]

/-- The nodes behind the first: none stands at the root's depth, each as deep as what is open lets it; an inner node's text has no quote and no bracket. -/
def WF : Int → List Nd → Prop
  | _, [] => True
  | o, x :: l => 1 ≤ x.depth ∧ x.depth ≤ o ∧ (x.inner = true → ∀ c ∈ x.text.data.toList, c ≠ 39 ∧ c ≠ 40 ∧ c ≠ 41) ∧ WF (if x.inner then x.depth + 1 else x.depth) l
theorem Wl_head (o : Int) (l : List Nd) (ho : 1 ≤ o) (h : WF o l) : ∃ c R, Wl o l = c :: R ∧ (c = 32 ∨ c = 41) := by
  cases l with
  | nil =>
    have : o.toNat = (o.toNat - 1) + 1 := by omega
    rw [Wl, this, parens, List.replicate_succ]
    exact ⟨41, _, rfl, .inr rfl⟩
  | cons x l =>
    rw [Wl]
    cases hn : (o - x.depth).toNat with
    | zero => exact ⟨32, _, (by simp only [parens, List.replicate_zero, List.nil_append, List.cons_append, List.append_assoc]; rfl), .inl rfl⟩
    | succ n => exact ⟨41, _, (by simp only [parens, List.replicate_succ, List.cons_append, List.append_assoc]; rfl), .inr rfl⟩
def leafN (l : List Nd) : List UInt8 := l.flatMap fun x => if x.inner then [] else x.text.data.toList
theorem parens_no (n : Nat) : ∀ c ∈ parens n, c ≠ 39 := by
  intro c hc
  rw [List.eq_of_mem_replicate hc]; decide
theorem outL_W {t : ByteArray} (l : List Nd) : ∀ (A : List UInt8) (o : Int), 1 ≤ o → WF o l → t.data.toList = A ++ Wl o l → outL t A.length = leafN l := by
  induction l with
  | nil =>
    intro A o _ _ h
    rw [Wl] at h
    rw [outL_skip (t := t) (parens o.toNat) (A := A) (R := []) (by simpa using h) (parens_no _)]
    have : (A ++ parens o.toNat).length = t.size := by rw [← h]; rfl
    rw [this, outL, dif_neg (by omega)]; rfl
  | cons x l ih =>
    intro A o ho hw h
    obtain ⟨h1, h2, h3, h4⟩ := hw
    rw [Wl] at h
    cases hi : x.inner with
    | true =>
      simp only [hi, if_true] at h h4
      have hlab : labelL x = 64 :: x.text.data.toList := by simp [labelL, hi]
      rw [hlab] at h
      have hs := outL_skip (t := t) (parens (o - x.depth).toNat ++ [32] ++ [40] ++ 64 :: x.text.data.toList) (A := A) (R := Wl (x.depth + 1) l) (by simpa using h) (by
        intro c hc
        simp only [List.mem_append, List.mem_cons, List.not_mem_nil, or_false] at hc
        rcases hc with ((hc | rfl) | rfl) | rfl | hc
        · exact parens_no _ c hc
        · decide
        · decide
        · decide
        · exact (h3 hi c hc).1)
      rw [hs, ih _ (x.depth + 1) (by omega) h4 (by simpa using h)]
      simp [leafN, hi]
    | false =>
      simp only [hi, Bool.false_eq_true, if_false, List.append_nil] at h h4
      have hlab : labelL x = 39 :: escL x.text.data.toList := by simp [labelL, hi]
      rw [hlab] at h
      obtain ⟨c, R, hc, hcc⟩ := Wl_head x.depth l h1 h4
      have hs := outL_skip (t := t) (parens (o - x.depth).toNat ++ [32]) (A := A) (R := 39 :: escL x.text.data.toList ++ Wl x.depth l) (by simpa using h) (by
        intro c hc
        simp only [List.mem_append, List.mem_singleton] at hc
        rcases hc with hc | rfl
        · exact parens_no _ c hc
        · decide)
      have hl := outL_leaf (t := t) (A := A ++ parens (o - x.depth).toNat) (x := x.text.data.toList) (R := R) (c := c) hcc (by rw [← hc]; simpa using h)
      have hih := ih (A ++ parens (o - x.depth).toNat ++ [32, 39] ++ escL x.text.data.toList) x.depth h1 h4 (by simpa using h)
      rw [outL_skip1 (c := c) (R := R) (by rw [← hc]; simpa using h) (by rcases hcc with rfl | rfl <;> decide)] at hih
      rw [hs, ← List.append_assoc, hl, hih]
      simp [leafN, hi]

/-! ## Brackets -/
def Stay : Int → List UInt8 → Prop
  | _, [] => True
  | o, c :: r => 0 < o + brkB c ∧ Stay (o + brkB c) r
theorem Stay.append {o : Int} {a b : List UInt8} (h : Stay o a) (h2 : Stay (o + brk a) b) : Stay o (a ++ b) := by
  induction a generalizing o with
  | nil => simpa [brk] using h2
  | cons c a ih =>
    refine ⟨h.1, ih h.2 ?_⟩
    have : brk (c :: a) = brkB c + brk a := by simp [brk]
    rw [this] at h2
    rw [Int.add_assoc]; exact h2
theorem Stay.take {o : Int} {a : List UInt8} (h : Stay o a) : ∀ k, 0 < k → k ≤ a.length → 0 < o + brk (a.take k) := by
  induction a generalizing o with
  | nil => intro k h1 h2; simp at h2; omega
  | cons c a ih =>
    intro k h1 h2
    cases k with
    | zero => omega
    | succ k =>
      rw [List.take_succ_cons]
      have : brk (c :: a.take k) = brkB c + brk (a.take k) := by simp [brk]
      rw [this, ← Int.add_assoc]
      cases k with
      | zero => simpa [brk] using h.1
      | succ k => exact ih h.2 (k + 1) (by omega) (by simpa using h2)
theorem Stay.flat {o : Int} (ho : 0 < o) {a : List UInt8} (h : ∀ c ∈ a, brkB c = 0) : Stay o a ∧ brk a = 0 := by
  induction a with
  | nil => exact ⟨trivial, rfl⟩
  | cons c a ih =>
    have hc := h c (by simp)
    have := ih (fun d hd => h d (by simp [hd]))
    refine ⟨⟨by rw [hc]; omega, by rw [hc, Int.add_zero]; exact this.1⟩, ?_⟩
    have e : brk (c :: a) = brkB c + brk a := by simp [brk]
    rw [e, hc, this.2]; rfl
theorem brk_parens (n : Nat) : brk (parens n) = -(n : Int) := by
  induction n with
  | zero => rfl
  | succ n ih =>
    have : parens (n + 1) = 41 :: parens n := by simp [parens, List.replicate_succ]
    rw [this]
    have e : brk (41 :: parens n) = brkB 41 + brk (parens n) := by simp [brk]
    rw [e, ih]; show -1 + -(n : Int) = _; omega
theorem Stay.parens {o : Int} {n : Nat} (h : (n : Int) < o) : Stay o (parens n) := by
  induction n generalizing o with
  | zero => trivial
  | succ n ih =>
    have : Proofs.Ytdaneedflpfeaaa.parens (n + 1) = 41 :: Proofs.Ytdaneedflpfeaaa.parens n := by simp [Proofs.Ytdaneedflpfeaaa.parens, List.replicate_succ]
    rw [this]
    have e : brkB 41 = -1 := rfl
    exact ⟨by rw [e]; omega, by rw [e]; exact ih (by omega)⟩
theorem brkB_zero {c : UInt8} (h1 : c ≠ 40) (h2 : c ≠ 41) : brkB c = 0 := by simp [brkB, h1, h2]
theorem hexD_all : ∀ q : Fin 16, brkB (hexD q.val) = 0 := by decide
theorem escB_flat (b : UInt8) : ∀ c ∈ escB b, brkB c = 0 := by
  intro c hc
  unfold escB at hc
  cases hp : plainB (b.toNat : Int) with
  | true =>
    simp only [hp, if_true, List.mem_singleton] at hc
    subst hc
    have hf := plain_facts hp
    exact brkB_zero (fun e => hf.2.2.2 (by rw [e]; rfl)) (fun e => hf.2.1 (by rw [e]; rfl))
  | false =>
    have hb := b.toNat_lt
    simp only [hp, Bool.false_eq_true, if_false, List.mem_cons, List.not_mem_nil, or_false] at hc
    rcases hc with rfl | rfl | rfl | rfl
    · rfl
    · rfl
    · exact hexD_all ⟨b.toNat / 16, by omega⟩
    · exact hexD_all ⟨b.toNat % 16, by omega⟩
theorem escL_flat (l : List UInt8) : ∀ c ∈ escL l, brkB c = 0 := by
  intro c hc
  obtain ⟨b, _, hb⟩ := List.mem_flatMap.1 hc
  exact escB_flat b c hb
theorem label_flat (x : Nd) (h : x.inner = true → ∀ c ∈ x.text.data.toList, c ≠ 39 ∧ c ≠ 40 ∧ c ≠ 41) : ∀ c ∈ labelL x, brkB c = 0 := by
  intro c hc
  cases hi : x.inner with
  | true =>
    simp only [labelL, hi, if_true, List.mem_cons] at hc
    rcases hc with rfl | hc
    · rfl
    · exact brkB_zero (h hi c hc).2.1 (h hi c hc).2.2
  | false =>
    simp only [labelL, hi, Bool.false_eq_true, if_false, List.mem_cons] at hc
    rcases hc with rfl | hc
    · rfl
    · exact escL_flat _ c hc
theorem Wl_stay (l : List Nd) : ∀ o : Int, 1 ≤ o → WF o l → ∃ B, Wl o l = B ++ [41] ∧ Stay o B ∧ o + brk B = 1 := by
  induction l with
  | nil =>
    intro o ho _
    refine ⟨parens (o.toNat - 1), ?_, Stay.parens (by omega), by rw [brk_parens]; omega⟩
    have : o.toNat = (o.toNat - 1) + 1 := by omega
    rw [Wl, this, parens, List.replicate_succ']
    simp [parens]
  | cons x l ih =>
    intro o ho hw
    obtain ⟨h1, h2, h3, h4⟩ := hw
    obtain ⟨B, hB, hS, hE⟩ := ih _ (by split <;> omega) h4
    have s1 : Stay o (parens (o - x.depth).toNat) := Stay.parens (by omega)
    have e1 : o + brk (parens (o - x.depth).toNat) = x.depth := by rw [brk_parens]; omega
    have s2 := Stay.flat (o := x.depth) (by omega) (a := [32]) (by intro c hc; simp at hc; subst hc; rfl)
    have lab := fun d (hd : 0 < d) => Stay.flat (o := d) hd (label_flat x h3)
    cases hi : x.inner with
    | true =>
      rw [hi] at hB hS hE
      simp only [if_true] at hB hS hE
      refine ⟨parens (o - x.depth).toNat ++ ([32] ++ ([40] ++ (labelL x ++ B))), by rw [Wl, hi]; simp only [if_true]; rw [hB]; simp, ?_, ?_⟩
      · refine s1.append ?_
        rw [e1]
        refine s2.1.append ?_
        rw [s2.2, Int.add_zero]
        refine Stay.append (a := [40]) ⟨by show 0 < x.depth + 1; omega, trivial⟩ ?_
        have e40 : brk [40] = 1 := rfl
        rw [e40]
        refine (lab (x.depth + 1) (by omega)).1.append ?_
        rw [(lab (x.depth + 1) (by omega)).2, Int.add_zero]
        exact hS
      · rw [brk_append, brk_append, brk_append, brk_append, s2.2, (lab (x.depth + 1) (by omega)).2]
        have e40 : brk [40] = 1 := rfl
        rw [e40]; omega
    | false =>
      rw [hi] at hB hS hE
      simp only [Bool.false_eq_true, if_false] at hB hS hE
      refine ⟨parens (o - x.depth).toNat ++ ([32] ++ (labelL x ++ B)), by rw [Wl, hi]; simp only [Bool.false_eq_true, if_false]; rw [hB]; simp, ?_, ?_⟩
      · refine s1.append ?_
        rw [e1]
        refine s2.1.append ?_
        rw [s2.2, Int.add_zero]
        refine (lab x.depth (by omega)).1.append ?_
        rw [(lab x.depth (by omega)).2, Int.add_zero]
        exact hS
      · rw [brk_append, brk_append, brk_append, s2.2, (lab x.depth (by omega)).2]
        omega

end Go.Proofs.Ytdaneedflpfeaaa
