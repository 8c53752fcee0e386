import Derived.Test.YtdaneedflpfeaabGreatDoorState
import Derived.Laws.BytesArg
import Derived.Laws.IdiomStrings
namespace Go.Proofs.YtdaneedflpfeaabGreatDoor
set_option maxRecDepth 100000
open Go.RowKit

/-- The text of a list of bytes. -/
def mk (l : List UInt8) : ByteArray := ⟨l.toArray⟩
theorem mk_append (l m : List UInt8) : mk l ++ mk m = mk (l ++ m) := by
  apply str_eq
  rw [Go.ByteArray.toList_eq, Go.ByteArray.toList_eq]
  simp [mk]
theorem mk_size (l : List UInt8) : (mk l).size = l.length := rfl
theorem mk_toList (l : List UInt8) : (mk l).toList = l := by rw [Go.ByteArray.toList_eq]; rfl
theorem mk_data (s : ByteArray) : mk s.data.toList = s := rfl

def parens (n : Nat) : List UInt8 := List.replicate n 41

def hexD (n : Nat) : UInt8 := if n < 10 then UInt8.ofNat (48 + n) else UInt8.ofNat (87 + n)
/-- A byte as a label holds it. -/
def escB (c : UInt8) : List UInt8 := if plainB (c.toNat : Int) then [c] else [92, 120, hexD (c.toNat / 16), hexD (c.toNat % 16)]
def escL (l : List UInt8) : List UInt8 := l.flatMap escB
theorem escB_len (c : UInt8) : (escB c).length ≤ 4 := by unfold escB; split <;> simp
theorem escL_len (l : List UInt8) : (escL l).length ≤ 4 * l.length := by
  induction l with
  | nil => simp [escL]
  | cons c l ih => simp only [escL, List.flatMap_cons, List.length_append, List.length_cons] at *; have := escB_len c; omega
theorem escL_snoc (l : List UInt8) (c : UInt8) : escL (l ++ [c]) = escL l ++ escB c := by simp [escL]
def u8s (l : List UInt8) : List Value := l.map fun b => .int .u8 (b.toNat : Int)
theorem u8s_append (l m : List UInt8) : u8s (l ++ m) = u8s l ++ u8s m := by simp [u8s]

theorem Tryz.infoU8 : (Tryz.prog.info? 5).map (fun i => (i.zero, i.size, i.bytes)) = some (some (.int .u8 0), 1, 1) := by kernel_rfl
theorem news_of {w : World} {B : Nat} {T : TypeId} {cs : Array Value} (hb : w.heap[B]? = some (.cells cs T (0, 0))) :
    ∀ j u, cs.toList[j]? = some u → w.cell? ((⟨B, 0, none⟩ : Addr).add j) = some u := World.news_of_block hb
theorem take_snocB (s : ByteArray) (k : Nat) (h : k < s.size) : s.data.toList.take (k + 1) = s.data.toList.take k ++ [s[k]] := by
  rw [List.take_succ_eq_append_getElem (by simpa using h)]; rfl

abbrev hexS : ByteArray := ⟨#[48, 49, 50, 51, 52, 53, 54, 55, 56, 57, 97, 98, 99, 100, 101, 102]⟩
theorem hex_all : ∀ q : Fin 16, ((⟨#[48, 49, 50, 51, 52, 53, 54, 55, 56, 57, 97, 98, 99, 100, 101, 102]⟩ : ByteArray)[q.val]'q.isLt) = hexD q.val := by decide
theorem hex_at (q : Nat) (h : q < (⟨#[48, 49, 50, 51, 52, 53, 54, 55, 56, 57, 97, 98, 99, 100, 101, 102]⟩ : ByteArray).size) : ((⟨#[48, 49, 50, 51, 52, 53, 54, 55, 56, 57, 97, 98, 99, 100, 101, 102]⟩ : ByteArray)[q]'h) = hexD q := hex_all ⟨q, h⟩

theorem conv_own {w : World} {base : Nat} {v : Value} {l : List UInt8} (h : w.ownsRow base 5 1 v l.length (u8s l)) : (convert 92 9 v).run Tryz.prog w = .ok (.string (mk l)) w := by
  rcases h.2 with ⟨rfl, h0⟩ | ⟨g, cap, cur, rfl, _⟩
  · have : l = [] := List.eq_nil_of_length_eq_zero h0
    subst this
    exact run_convert_bytes_nil w 92 5 Tryz.underlying92 Tryz.underlying5 0 0 9 Tryz.underlying9
  · refine run_convert_bytes_back w 92 9 5 ⟨g, 0, none⟩ cap l Tryz.underlying92 Tryz.underlying5 Tryz.underlying9 (fun j hj => ?_)
    exact h.cells rfl j _ (by simp [u8s, List.getElem?_eq_getElem hj])


/-- A node's label. -/
def labelL (n : Nd) : List UInt8 := if n.inner then 64 :: n.text.data.toList else 39 :: escL n.text.data.toList

theorem cat_mk (a : List UInt8) (s : ByteArray) : (mk a) ++ s = mk (a ++ s.data.toList) := by
  rw [← mk_append, mk_data]

theorem cat_nil (a : ByteArray) : a ++ mk [] = a := by rw [← mk_data a, mk_append, List.append_nil]
abbrev WAcc := List UInt8 × Int × Bool
def wStep (a : WAcc) (n : Nd) : WAcc :=
  (a.1 ++ parens (a.2.1 - n.depth).toNat ++ (if a.2.2 then [] else [32]) ++ (if n.inner then [40] else []) ++ labelL n, if n.inner then n.depth + 1 else n.depth, false)
def wAcc (l : List Nd) : WAcc := l.foldl wStep ([], 0, true)
/-- A tree as a text. -/
def writtenL (l : List Nd) : List UInt8 := (wAcc l).1 ++ parens (wAcc l).2.1.toNat
theorem wAcc_snoc (l : List Nd) (n : Nd) : wAcc (l ++ [n]) = wStep (wAcc l) n := by simp [wAcc]
theorem wAcc_first (l : List Nd) : (wAcc l).2.2 = l.isEmpty := by
  rcases List.eq_nil_or_concat l with rfl | ⟨l, x, rfl⟩
  · rfl
  · rw [List.concat_eq_append, wAcc_snoc]; simp [wStep]
/-- Nodes that are not too great. -/
def Mod (l : List Nd) : Prop := ∀ x ∈ l, -1000000 ≤ x.depth ∧ x.depth ≤ 1000000 ∧ x.text.size ≤ 1000000
theorem Mod.take {l : List Nd} (h : Mod l) (k : Nat) : Mod (l.take k) := fun x hx => h x (List.mem_of_mem_take hx)
theorem labelL_len (n : Nd) (h : n.text.size ≤ 1000000) : (labelL n).length ≤ 4000001 := by
  unfold labelL
  have := escL_len n.text.data.toList
  have h2 : n.text.data.toList.length = n.text.size := rfl
  split
  · simp only [List.length_cons]; omega
  · simp only [List.length_cons]; omega
theorem wAcc_open {l : List Nd} (h : Mod l) : -1000000 ≤ (wAcc l).2.1 ∧ (wAcc l).2.1 ≤ 1000001 := by
  rcases List.eq_nil_or_concat l with rfl | ⟨l, x, rfl⟩
  · decide
  · rw [List.concat_eq_append] at h ⊢
    rw [wAcc_snoc]
    have := h x (by simp)
    simp only [wStep]
    split <;> omega
theorem wAcc_len (l : List Nd) (h : Mod l) : (wAcc l).1.length ≤ l.length * 10000000 := by
  generalize hn : l.length = n
  induction n generalizing l with
  | zero => have : l = [] := List.eq_nil_of_length_eq_zero hn; subst this; simp [wAcc]
  | succ n ih =>
    rcases List.eq_nil_or_concat l with rfl | ⟨l, x, rfl⟩
    · simp at hn
    · rw [List.concat_eq_append] at h hn ⊢
      have h1 : Mod l := fun y hy => h y (by simp [hy])
      have hx := h x (by simp)
      have := ih l h1 (by simpa using hn)
      have ho := wAcc_open h1
      have hl := labelL_len x hx.2.2
      rw [wAcc_snoc]
      simp only [wStep, List.length_append, parens, List.length_replicate]
      have h3 : (if (wAcc l).2.2 = true then ([] : List UInt8) else [32]).length ≤ 1 := by split <;> simp
      have h4 : (if x.inner = true then ([40] : List UInt8) else []).length ≤ 1 := by split <;> simp
      omega


end Go.Proofs.YtdaneedflpfeaabGreatDoor
