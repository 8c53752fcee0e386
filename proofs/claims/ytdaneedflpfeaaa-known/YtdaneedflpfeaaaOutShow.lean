import Derived.Test.YtdaneedflpfeaaaOut
import Derived.Test.YtdaneedflpfeaaaShow2
namespace Go.Proofs.Ytdaneedflpfeaaa
set_option maxRecDepth 100000
open Go.RowKit

/-- What Show answers. -/
def showT (s : ByteArray) : Ending :=
  match outT s with
  | .err c p => .returned (.tuple #[.string ⟨#[]⟩, .int .i64 c, .int .i64 p])
  | .ok l => .returned (.tuple #[.string (mk (writtenL l)), .int .i64 0, .int .i64 0])

set_option maxHeartbeats 800000 in
/-- Show, of every text. -/
theorem show_any (s : ByteArray) (w : World) : Calls Try.prog 10 #[.string s] w fun e w' => e = showT s ∧ Below w.heap.size w w' := by
  cases ho : outT s with
  | err c p =>
    have HR : Hid (∀ wx, Calls Try.prog 22 #[.string s] wx fun e w' => RPost wx (.err c p) e w') := fun wx => by have := read_all s wx; rw [ho] at this; exact this
    have HS : Hid (showT s = .returned (.tuple #[.string ⟨#[]⟩, .int .i64 c, .int .i64 p])) := by show showT s = _; simp [showT, ho]
    have hc : (c != 0) = true := bne_iff_ne.2 (outT_ne ho).1
    clear ho
    go_enter Try.func10, Try.ntmps10
    go_wp2_with fail
    refine (unhide HR _).mono ?_
    rintro e w1 ⟨hB, rfl⟩
    have HB := hide hB
    clear hB
    go_wp2_with fail
    go_ret3
    exact ⟨(unhide HS).symm, unhide HB⟩
  | ok l =>
    have HR : Hid (∀ wx, Calls Try.prog 22 #[.string s] wx fun e w' => RPost wx (.ok l) e w') := fun wx => by have := read_all s wx; rw [ho] at this; exact this
    have HS : Hid (showT s = .returned (.tuple #[.string (mk (writtenL l)), .int .i64 0, .int .i64 0])) := by show showT s = _; simp [showT, ho]
    obtain ⟨l0, j, _, _, hl0, hlen, hmod⟩ := outT_mod ho
    have hl80 : l.length ≤ 1000000 := by rw [hl0, List.length_map]; omega
    have HM := hide hmod
    clear ho hl0 hmod
    go_enter Try.func10, Try.ntmps10
    go_wp2_with fail
    refine (unhide HR _).mono ?_
    rintro e w1 ⟨hB, g, cap, rfl, hg, hown⟩
    have HB := hide hB
    have HO := hide hown
    have hsz := hB.size
    clear hB hown
    go_wp2_with fail
    refine (written_any l _ g cap _ hl80 (unhide HM) hg (unhide HO)).mono ?_
    rintro e w2 ⟨rfl, hB2⟩
    have HB2 : Hid (Below w.heap.size w w2) := (unhide HB).trans (hB2.mono hsz)
    clear hB2
    go_wp2_with fail
    go_ret3
    exact ⟨(unhide HS).symm, unhide HB2⟩

end Go.Proofs.Ytdaneedflpfeaaa
