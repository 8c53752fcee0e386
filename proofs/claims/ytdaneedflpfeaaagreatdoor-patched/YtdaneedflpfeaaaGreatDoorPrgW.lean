import Derived.Test.YtdaneedflpfeaaaGreatDoorOutF
namespace Go.Proofs.YtdaneedflpfeaaaGreatDoor
set_option maxRecDepth 100000
open Go.RowKit

set_option maxHeartbeats 400000 in
theorem program_any (s : ByteArray) (w : World) :
    Calls Tryz.prog 17 #[.string s] w fun e w' => e = .returned (.bool (isOk (outT s))) ∧ Below w.heap.size w w' := by
  have HS := hide (fun wx => show_any s wx)
  cases ho : outT s with
  | err c p =>
    have HE : Hid (showT s = .returned (.tuple #[.string ⟨#[]⟩, .int .i64 c, .int .i64 p])) := by show showT s = _; simp [showT, ho]
    have hc : (c == 0) = false := by have := (outT_ne ho).1; simpa using this
    clear ho
    go_enter Tryz.func17, Tryz.ntmps17
    go_wp2_with fail
    refine (unhide HS _).mono ?_
    rintro e w1 ⟨he, hB⟩
    rw [unhide HE] at he
    subst he
    have HB := hide hB
    clear hB
    go_wp2_with fail
    go_ret
    exact ⟨rfl, unhide HB⟩
  | ok l =>
    have HE : Hid (showT s = .returned (.tuple #[.string (mk (writtenL l)), .int .i64 0, .int .i64 0])) := by show showT s = _; simp [showT, ho]
    clear ho
    go_enter Tryz.func17, Tryz.ntmps17
    go_wp2_with fail
    refine (unhide HS _).mono ?_
    rintro e w1 ⟨he, hB⟩
    rw [unhide HE] at he
    subst he
    have HB := hide hB
    clear hB
    go_wp2_with fail
    go_ret
    exact ⟨rfl, unhide HB⟩

end Go.Proofs.YtdaneedflpfeaaaGreatDoor
