import Derived.Test.YtgnjeelhhnkifaaRead2
import Derived.Laws.BytesArg
import Derived.Laws.IdiomStrings
namespace Go.Proofs.Ytgnjeelhhnkifaa
open Go.RowKit

/-- The text of a list of bytes. -/
def mk (l : List UInt8) : ByteArray := ⟨l.toArray⟩
theorem mk_append (l m : List UInt8) : mk l ++ mk m = mk (l ++ m) := by
  apply str_eq
  rw [Go.ByteArray.toList_eq, Go.ByteArray.toList_eq]
  simp [mk]
theorem mk_size (l : List UInt8) : (mk l).size = l.length := rfl
theorem mk_toList (l : List UInt8) : (mk l).toList = l := by rw [Go.ByteArray.toList_eq]; rfl
theorem mk_data (s : ByteArray) : mk s.data.toList = s := rfl

def parens (n : Nat) : List UInt8 := List.replicate n 41

set_option maxHeartbeats 800000 in
theorem closing_any (c : Int) (w : World) (hc : c ≤ 10000000) :
    Calls Try.prog 14 #[.int .i64 c] w fun e w' => e = .returned (.string (mk (parens c.toNat))) ∧ w' = w := by
  go_enter Try.func14, Try.ntmps14
  go_wp2_with fail
  go_loop [3, 4] (fun v i => ∃ (k : Nat) (o : ByteArray), (k ≤ c.toNat) ∧ i = .int .i64 k ∧ v = .string o ∧ Hid (o = mk (parens k)) ∧ o.size = k) (fun _ i => c.toNat - (intOf i).toNat)
  case atStart => exact ⟨0, ⟨#[]⟩, Nat.zero_le _, rfl, rfl, rfl, rfl⟩
  case round =>
    obtain ⟨k, o, hk, rfl, rfl, HO, hsz⟩ := hrel
    have HZ := hide hsz
    have hle : o.size ≤ 10000000 := by omega
    clear hsz
    by_cases hlt : (k : Int) < c
    · go_wp2_with fail
      go_round
      case rel =>
        refine ⟨k + 1, o ++ ⟨#[41]⟩, by omega, by go_num, rfl, ?_, ?_⟩
        · show o ++ mk [41] = _
          rw [unhide HO, mk_append, parens, parens, List.replicate_succ']
        · rw [ByteArray.size_append, unhide HZ]; rfl
      case measure => simp [intOf]; omega
    · have hkc : Hid (k = c.toNat) := by show k = c.toNat; omega
      go_wp2_with fail
      go_ret
      exact ⟨ret_str (by rw [unhide HO, unhide hkc]), rfl⟩

def hexD (n : Nat) : UInt8 := if n < 10 then UInt8.ofNat (48 + n) else UInt8.ofNat (87 + n)
/-- A byte as a label holds it. -/
def escB (c : UInt8) : List UInt8 := if plainB (c.toNat : Int) then [c] else [92, 120, hexD (c.toNat / 16), hexD (c.toNat % 16)]
def escL (l : List UInt8) : List UInt8 := l.flatMap escB
theorem escB_len (c : UInt8) : (escB c).length ≤ 4 := by unfold escB; split <;> simp
theorem escL_len (l : List UInt8) : (escL l).length ≤ 4 * l.length := by
  induction l with
  | nil => simp [escL]
  | cons c l ih => simp only [escL, List.flatMap_cons, List.length_append, List.length_cons] at *; have := escB_len c; omega
theorem escL_snoc (l : List UInt8) (c : UInt8) : escL (l ++ [c]) = escL l ++ escB c := by simp [escL]
def u8s (l : List UInt8) : List Value := l.map fun b => .int .u8 (b.toNat : Int)
theorem u8s_append (l m : List UInt8) : u8s (l ++ m) = u8s l ++ u8s m := by simp [u8s]

theorem Try.infoU8 : (Try.prog.info? 5).map (fun i => (i.zero, i.size, i.bytes)) = some (some (.int .u8 0), 1, 1) := by kernel_rfl
theorem news_of {w : World} {B : Nat} {T : TypeId} {cs : Array Value} (hb : w.heap[B]? = some (.cells cs T (0, 0))) :
    ∀ j u, cs.toList[j]? = some u → w.cell? ((⟨B, 0, none⟩ : Addr).add j) = some u := World.news_of_block hb
theorem take_snocB (s : ByteArray) (k : Nat) (h : k < s.size) : s.data.toList.take (k + 1) = s.data.toList.take k ++ [s[k]] := by
  rw [List.take_succ_eq_append_getElem (by simpa using h)]; rfl

theorem hex_all : ∀ q : Fin 16, ((⟨#[48, 49, 50, 51, 52, 53, 54, 55, 56, 57, 97, 98, 99, 100, 101, 102]⟩ : ByteArray)[q.val]'q.isLt) = hexD q.val := by decide
theorem hex_at (q : Nat) (h : q < (⟨#[48, 49, 50, 51, 52, 53, 54, 55, 56, 57, 97, 98, 99, 100, 101, 102]⟩ : ByteArray).size) : ((⟨#[48, 49, 50, 51, 52, 53, 54, 55, 56, 57, 97, 98, 99, 100, 101, 102]⟩ : ByteArray)[q]'h) = hexD q := hex_all ⟨q, h⟩

theorem conv_own {w : World} {base : Nat} {v : Value} {l : List UInt8} (h : w.ownsRow base 5 1 v l.length (u8s l)) : (convert 32 9 v).run Try.prog w = .ok (.string (mk l)) w := by
  rcases h.2 with ⟨rfl, h0⟩ | ⟨g, cap, cur, rfl, _⟩
  · have : l = [] := List.eq_nil_of_length_eq_zero h0
    subst this
    exact run_convert_bytes_nil w 32 5 Try.underlying32 Try.underlying5 0 0 9 Try.underlying9
  · refine run_convert_bytes_back w 32 9 5 ⟨g, 0, none⟩ cap l Try.underlying32 Try.underlying5 Try.underlying9 (fun j hj => ?_)
    exact h.cells rfl j _ (by simp [u8s, List.getElem?_eq_getElem hj])

set_option maxHeartbeats 1600000 in
set_option maxRecDepth 100000 in
theorem escaped_any (s : ByteArray) (w : World) (hs : s.size ≤ 1000000) :
    Calls Try.prog 24 #[.string s] w fun e w' => e = .returned (.string (mk (escL s.data.toList))) ∧ Below w.heap.size w w' := by
  obtain ⟨i0, hi, hz0, hz1, hz2⟩ := info_parts Try.infoU8
  go_enter Try.func24, Try.ntmps24
  go_wp2_with fail
  go_loopw [3, 4, 5] (fun v i _ wr => ∃ k : Nat, k ≤ s.size ∧ i = .int .i64 k ∧ wr.ownsRow w.heap.size 5 1 v (escL (s.data.toList.take k)).length (u8s (escL (s.data.toList.take k))) ∧ Below w.heap.size w wr) (fun _ i _ _ => s.size - (intOf i).toNat)
  case atStart => exact ⟨0, Nat.zero_le _, rfl, World.ownsRow_nil _ _ _ _, Below.refl _ _⟩
  case round =>
    obtain ⟨k, hk, rfl, hown, hB⟩ := hrel
    have hel := escL_len (s.data.toList.take k)
    have hel2 : (s.data.toList.take k).length ≤ k := List.length_take_le _ _
    have HO := hide hown
    have HB := hide hB
    have hsz := hB.size
    by_cases hlt : k < s.size
    · have HT := hide (take_snocB s k hlt)
      generalize s.data.toList.take k = L at *
      have hb : ((s[k].toNat : Nat) : Int) ≤ 255 := by have := s[k].toNat_lt; omega
      clear hown hB
      cases hpl : plainB (s[k].toNat : Int) with
      | true =>
        go_wp2_with (first
          | (go_at_call 35; refine (isPlain_any _ _ (by omega) (by omega)).mono ?_; rintro e w1 ⟨rfl, hw⟩; have hw := hw.symm; subst hw)
          | (at_builtin; refine wpList_append_lies _ rfl (.tmp 17) (.tmp 19) 32 rfl w.heap.size 5 i0 (.int .u8 0) 1 1 Try.underlying32 hi hz0 hz1 hz2 rfl (by decide) _ (escL L).length (u8s (escL L)) rfl ((unhide HO).alloc _) ⟨wr.heap.size, 0, none⟩ 1 1 [.int .u8 (s[k].toNat : Int)] rfl rfl (news_of (heap_alloc_new _ _)) (by intro u hu; simp at hu; subst hu; rfl) (by decide) (by unfold maxLen; omega) (by omega) (by simp; omega) _ rfl ?_)
          | fail)
        intro g cap w2 hown2 hgrow _ hlt2
        have hB2 : Below w.heap.size w w2 := ((unhide HB).alloc hsz _).grown hgrow (by simp; omega) (fun j hj => ((unhide HO).lt j hj).1)
        have HB2 := hide hB2
        have HO2 := hide hown2
        have HE : Hid (escL (L ++ [s[k]]) = escL L ++ [s[k]]) := by show escL (L ++ [s[k]]) = _; rw [escL_snoc, escB, if_pos hpl]
        clear hown2 hgrow hB2 HO HB
        go_wp2_with fail
        go_roundw
        case rel => exact ⟨k + 1, by omega, by go_num, by rw [unhide HT, unhide HE, u8s_append, List.length_append]; exact unhide HO2, unhide HB2⟩
        case measure => simp [intOf]; omega
      | false =>
        obtain ⟨q, hq, hq16, HQ⟩ : ∃ q : Nat, IntKind.u8.wrap ((s[k].toNat : Int) / 16) = (q : Int) ∧ (q : Int) < 16 ∧ Hid (q = s[k].toNat / 16) := ⟨s[k].toNat / 16, by unfold IntKind.wrap; simp [IntKind.signed, IntKind.bits]; omega, by omega, rfl⟩
        obtain ⟨r, hr, hr16, HR⟩ : ∃ r : Nat, ((s[k].toNat : Int).tmod 16) = (r : Int) ∧ (r : Int) < 16 ∧ Hid (r = s[k].toNat % 16) := ⟨s[k].toNat % 16, by rw [Int.tmod_eq_emod_of_nonneg (by omega)]; omega, by omega, rfl⟩
        go_wp2_with (first
          | (go_at_call 35; refine (isPlain_any _ _ (by omega) (by omega)).mono ?_; rintro e w1 ⟨rfl, hw⟩; have hw := hw.symm; subst hw)
          | fail)
        have HE : Hid (escL (L ++ [s[k]]) = escL L ++ [92, 120, hexD q, hexD r]) := by show escL (L ++ [s[k]]) = _; rw [escL_snoc, escB, hpl, unhide HQ, unhide HR]; rfl
        go_region_law
          (refine step_append_lies _ rfl (.tmp 21) (.tmp 28) 32 rfl w.heap.size 5 i0 (.int .u8 0) 1 1 Try.underlying32 hi hz0 hz1 hz2 rfl (by decide) u3 (escL L).length (u8s (escL L)) (by simp [Act.eval]) (by exact ((unhide HO).alloc _).drew) ⟨wr.heap.size, 0, none⟩ 4 4 _ (by simp [Act.eval]) rfl (news_of (heap_alloc_new _ _)) (by intro u hu; simp at hu; rcases hu with rfl | rfl | rfl | rfl <;> rfl) (by decide) (by unfold maxLen; omega) (by omega) (by show w.heap.size ≤ (wr.alloc _).heap.size; simp; omega) _ rfl ?_;
           intro g cap w2 hown2 hgrow _ _;
           have HB2 : Hid (Below w.heap.size w w2) := (((unhide HB).alloc hsz _).drew).grown hgrow (by show w.heap.size ≤ (wr.alloc _).heap.size; simp; omega) (fun j hj => ((unhide HO).lt j hj).1);
           have HO2 := hide hown2;
           clear hown2 hgrow)
        all_goals go_wp2_with fail
        all_goals go_roundw
        all_goals first
          | (case measure => simp [intOf]; omega)
          | skip
        all_goals
          refine ⟨k + 1, by omega, by go_num, ?_, unhide HB2⟩
          rw [unhide HT, unhide HE, u8s_append, List.length_append]
          have e : u8s [92, 120, hexD q, hexD r] = [.int .u8 92, .int .u8 120, .int .u8 ((hexD q).toNat : Int), .int .u8 ((hexD r).toNat : Int)] := rfl
          rw [e, ← hex_at q (by show q < 16; omega), ← hex_at r (by show r < 16; omega)]
          exact unhide HO2
    · have HT : Hid (s.data.toList.take k = s.data.toList) := List.take_of_length_le (by show s.size ≤ k; omega)
      rw [unhide HT] at hown
      have hcv := conv_own hown
      clear hown hB
      go_wp2_with fail
      go_ret
      exact ⟨rfl, unhide HB⟩

end Go.Proofs.Ytgnjeelhhnkifaa
