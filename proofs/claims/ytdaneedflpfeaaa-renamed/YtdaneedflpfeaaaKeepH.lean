import Derived.Test.YtdaneedflpfeaaaKeepG
namespace Go.Proofs.Ytdaneedflpfeaaa
set_option maxRecDepth 100000
open Go.RowKit

/-- The seven statements, and their rows. -/
def stmB : Nat → List UInt8
  | 0 => [59]
  | 1 => [123, 125]
  | 2 => [114, 101, 116, 117, 114, 110, 59]
  | 3 => [120, 59]
  | 4 => [120, 61, 49, 59]
  | 5 => [102, 40, 41, 59]
  | _ => [114, 101, 116, 117, 114, 110, 32, 45, 120, 59]
def lf (d : Nat) (t : List UInt8) : Rw := ⟨d, false, mk t⟩
def nd (d : Nat) (t : List UInt8) : Rw := ⟨d, true, mk t⟩
def stmR : Nat → List Rw
  | 0 => [nd 2 [101, 109, 112, 116, 121], lf 3 [59]]
  | 1 => [nd 2 [98, 108, 111, 99, 107], lf 3 [123], lf 3 [125]]
  | 2 => [nd 2 [114, 101, 116, 117, 114, 110], lf 3 [114, 101, 116, 117, 114, 110], lf 3 [59]]
  | 3 => [nd 2 [101, 120, 112, 114], lf 3 [120], lf 3 [59]]
  | 4 => [nd 2 [101, 120, 112, 114], nd 3 [115, 101, 116], lf 4 [120], lf 4 [61], lf 4 [49], lf 3 [59]]
  | 5 => [nd 2 [101, 120, 112, 114], nd 3 [99, 97, 108, 108], lf 4 [102], lf 4 [40], lf 4 [41], lf 3 [59]]
  | _ => [nd 2 [114, 101, 116, 117, 114, 110], lf 3 [114, 101, 116, 117, 114, 110], nd 3 [110, 101, 103], lf 4 [32, 45], lf 4 [120], lf 3 [59]]
theorem parse0 (X : ByteArray) (a : Nat) : parseT (⟨kType, mk voidB, 0⟩ :: ⟨kName, X, 4 + 1⟩ :: ((scanT (mk [40, 41, 123, 125])).map (movT a)).map (movT 4)) = some (.ok (nodeR kProgram (voidR X [])) 7) := by kernel_rfl
theorem parse1 (X : ByteArray) (a : Nat) (k : Fin 7) : ∃ j, parseT (⟨kType, mk voidB, 0⟩ :: ⟨kName, X, 4 + 1⟩ :: ((scanT (mk (40 :: 41 :: 123 :: (stmB k ++ [125])))).map (movT a)).map (movT 4)) = some (.ok (nodeR kProgram (voidR X (stmR k))) j) := by
  match k with
  | 0 => exact ⟨8, by kernel_rfl⟩
  | 1 => exact ⟨9, by kernel_rfl⟩
  | 2 => exact ⟨9, by kernel_rfl⟩
  | 3 => exact ⟨9, by kernel_rfl⟩
  | 4 => exact ⟨11, by kernel_rfl⟩
  | 5 => exact ⟨11, by kernel_rfl⟩
  | 6 => exact ⟨11, by kernel_rfl⟩
theorem inner0 (X : ByteArray) : innerD ((nodeR kProgram (voidR X [])).map (toNd 0)) ≤ 20 := of_decide_eq_true (by kernel_rfl)
theorem inner1 (X : ByteArray) (k : Fin 7) : innerD ((nodeR kProgram (voidR X (stmR k))).map (toNd 0)) ≤ 20 := by
  match k with
  | 0 => exact of_decide_eq_true (by kernel_rfl)
  | 1 => exact of_decide_eq_true (by kernel_rfl)
  | 2 => exact of_decide_eq_true (by kernel_rfl)
  | 3 => exact of_decide_eq_true (by kernel_rfl)
  | 4 => exact of_decide_eq_true (by kernel_rfl)
  | 5 => exact of_decide_eq_true (by kernel_rfl)
  | 6 => exact of_decide_eq_true (by kernel_rfl)
theorem stm_len (k : Fin 7) : (stmR k).length ≤ 6 ∧ (stmB k).length ≤ 10 := by revert k; decide
/-- void W(){} is a program. -/
theorem prg0 {W : List UInt8} (h : Nam W) (hl : W.length ≤ 100) : Prg (mk (voidB ++ (32 :: (W ++ [40, 41, 123, 125])))) (voidR (mk (32 :: W)) []) := by
  have hsc := scan_void W [41, 123, 125] h
  have hp := parse0 (mk (32 :: W)) (1 + W.length)
  rw [← scanL_T] at hp
  rw [← hsc] at hp
  exact prg_is (out_of (by rw [mk_size]; simp [voidB]; omega) hp (inner0 _) (by rw [nodeR_size]; simp [voidR]))
theorem prg1 {W : List UInt8} (h : Nam W) (hl : W.length ≤ 100) (k : Fin 7) : Prg (mk (voidB ++ (32 :: (W ++ 40 :: 41 :: 123 :: (stmB k ++ [125]))))) (voidR (mk (32 :: W)) (stmR k)) := by
  have hsc := scan_void W (41 :: 123 :: (stmB k ++ [125])) h
  obtain ⟨j, hp⟩ := parse1 (mk (32 :: W)) (1 + W.length) k
  have hk := stm_len k
  rw [← scanL_T] at hp
  rw [← hsc] at hp
  exact prg_is (out_of (by rw [mk_size]; simp [voidB]; omega) hp (inner1 _ k) (by rw [nodeR_size]; simp [voidR]; omega))

end Go.Proofs.Ytdaneedflpfeaaa
